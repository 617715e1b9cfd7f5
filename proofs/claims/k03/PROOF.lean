import PyProof.Rows.All
import Wide.All
import OpenK.AllK
import Wide.FinOn
import HandS.ForMost
import HandS.IsInst
import HandS.Wide
import HandS.Walk
import HandS.Flow
import HandS.AnyAll
import HandS.EndTab
import HandS.Deep
import HandS.Style
import HandS.Conv
import HandS.DictTup
import HandS.SortInts
import KE.DataCmp
import KE.SortData
import KE.BitLaws
import KE.DataFind
import PyProof.ReprRoads
import PyProof.Rows.ReprOcc
import HandS.FStr
import HandS.StrMore
import HandS.Exc
import HandS.ExcInit
import HandS.ExcIs
import HandS.ExcField
import HandS.WordsExc
import HandS.ExcValue
import HandS.SetFor
import HandS.RevRange
import HandS.GenList
import HandS.DictComp
import PyProof.SumAny
import HandS.Star
import HandS.WideBits
import KE.KeyNested
import KE.KDictKeyed
import HandS.Strs
import HandS.CallLocal
import HandS.More
import HandS.RaiseFrom
import HandS.SuiteRaise
import HandS.TryOnly
import HandS.Small
import HandS.ExcInitHot
import KE.GoesRaise
import KE.KExcIs
import PySem.Challenge.RW_packwants_k03_whole_wants
set_option Elab.async false
set_option linter.all false
set_option maxRecDepth 100000
set_option maxHeartbeats 4000000
namespace Pk
open PySem PySem.Spec PyProof.Rows L2
def topS (i : Nat) : Stmt := PySem.Challenge.pw_packwants_k03_whole_wants.main.body.getD i (.Pass ⟨0, 0, 0, 0⟩)
/-! ### heaps and plain data -/
theorem same_upd {H : Hp} {p : Addr} {o : HO} (h : H p = none) : Same H (upd H p o) := fun b x e => by
  rw [upd_ne (ne_of_none e h)]
  exact e
/-- all but a is as it was -/
def SameBut (a : Addr) (H H' : Hp) : Prop := ∀ b o, b ≠ a → H b = some o → H' b = some o
theorem SameBut.of {a : Addr} {H H' : Hp} (h : Same H H') : SameBut a H H' := fun b o _ e => h b o e
theorem SameBut.refl (a : Addr) (H : Hp) : SameBut a H H := fun _ _ _ e => e
theorem SameBut.trans {a : Addr} {H H1 H2 : Hp} (h : SameBut a H H1) (k : SameBut a H1 H2) : SameBut a H H2 := fun b o n e => k b o n (h b o n e)
theorem SameBut.upd {a : Addr} {H : Hp} {o : HO} : SameBut a H (upd H a o) := fun b x n e => by
  rw [upd_ne n]
  exact e
theorem SameBut.new {a p : Addr} {H H' : Hp} {o : HO} (h : SameBut a H H') (hp : H p = none) : SameBut a H (L2.upd H' p o) := fun b x n e => by
  rw [upd_ne (ne_of_none e hp)]
  exact h b x n e
/-- what was not there at the start may change -/
theorem sm_new {p : Addr} {H H' : Hp} {o : HO} (h : Same H H') (hp : H p = none) : Same H (L2.upd H' p o) := fun b x e => by
  rw [upd_ne (ne_of_none e hp)]
  exact h b x e
theorem SameBut.free {a p : Addr} {H H' : Hp} (h : SameBut a H H') (n : H' p = none) (ha : H' a ≠ none) : H p = none := by
  cases q : H p with
  | none => rfl
  | some o =>
    by_cases e : p = a
    · subst e
      exact absurd n ha
    · rw [h p o e q] at n
      cases n
/-- a list of ints -/
abbrev LI (ns : List Int) : HO := .lst (ns.map V.int)
theorem dpAll_ints {K : PySem.W.Frag} {H : Hp} : ∀ ns : List Int, DpAll K H (ns.map V.int) (ns.map PyData.int)
  | [] => .nil
  | n :: r => .cons (.int n) (dpAll_ints r)
theorem dp_ints {K : PySem.W.Frag} {H : Hp} {a : Addr} {ns : List Int} (h : SqL K H a (ns.map V.int)) : Dp K H (.ref a) (.list (ns.map PyData.int)) := .lst h (dpAll_ints ns)
theorem lay_ints : ∀ ns : List Int, PyData.canLayAll0 (ns.map PyData.int) = true
  | [] => by simp [PyData.canLayAll0]
  | n :: r => by
    have ih := lay_ints r
    simp [PyData.canLayAll0, PyData.canLay0, ih]
theorem depth_ints : ∀ ns : List Int, PyData.depthAll (ns.map PyData.int) = 0
  | [] => by simp [PyData.depthAll]
  | n :: r => by
    have ih := depth_ints r
    simp [PyData.depthAll, PyData.depth, ih]
theorem shaped_ints (ns : List Int) : SeqAt.shaped (.list (ns.map PyData.int)) = true := by
  unfold SeqAt.shaped
  have h1 : PyData.canLay0 (.list (ns.map PyData.int)) = true := by
    simp only [PyData.canLay0]
    exact lay_ints ns
  have h2 : PyData.depth (.list (ns.map PyData.int)) ≤ 64 := by
    simp only [PyData.depth]
    rw [depth_ints]
    omega
  rw [h1, decide_eq_true h2]
  rfl
theorem eqvAll_ints : ∀ ns ms : List Int, PyData.eqvAll (ns.map PyData.int) (ms.map PyData.int) = decide (ns = ms)
  | [], [] => by simp [PyData.eqvAll]
  | [], _ :: _ => by simp [PyData.eqvAll]
  | _ :: _, [] => by simp [PyData.eqvAll]
  | n :: r, m :: q => by
    have ih := eqvAll_ints r q
    simp only [List.map_cons, PyData.eqvAll, PyData.eqv, ih]
    by_cases h1 : n = m <;> by_cases h2 : r = q <;> simp [h1, h2]
theorem eqv_ints (ns ms : List Int) : PyData.eqv (.list (ns.map PyData.int)) (.list (ms.map PyData.int)) = decide (ns = ms) := by
  simp only [PyData.eqv]
  exact eqvAll_ints ns ms
theorem li_app (ls : List Int) (n : Int) : HO.lst (ls.map V.int ++ [.int n]) = LI (ls ++ [n]) := by
  show _ = HO.lst ((ls ++ [n]).map V.int)
  rw [List.map_append]
  rfl
theorem li_set (ls : List Int) (j : Nat) (n : Int) : HO.lst ((ls.map V.int).set j (.int n)) = LI (ls.set j n) := by
  show _ = HO.lst ((ls.set j n).map V.int)
  rw [List.map_set]
theorem at_app {H : Hp} {a : Addr} {ls : List Int} {n : Int} : upd H a (.lst (ls.map V.int ++ [.int n])) a = some (LI (ls ++ [n])) := by rw [upd_same, li_app]
theorem at_set {H : Hp} {a : Addr} {ls : List Int} {j : Nat} {n : Int} : upd H a (.lst ((ls.map V.int).set j (.int n))) a = some (LI (ls.set j n)) := by rw [upd_same, li_set]
theorem szL {n : Nat} (h : n ≤ 100000) : n ≤ sizeLine := Nat.le_trans h (by decide)
theorem szL' {n : Nat} (h : n ≤ 100000) : n < sizeLine := Nat.lt_of_le_of_lt h (by decide)
theorem get_ints {ns : List Int} {i : Nat} {n : Int} (h : ns[i]? = some n) : (ns.map V.int)[i]? = some (.int n) := by
  rw [List.getElem?_map, h]
  rfl
theorem getD_ints {ns : List Int} {i : Nat} (h : i < ns.length) : (ns.map V.int)[i]? = some (.int ns[i]) := get_ints (List.getElem?_eq_getElem h)
theorem of_get_ints {ns : List Int} {i : Nat} {v : V} (h : (ns.map V.int)[i]? = some v) : ∃ n, ns[i]? = some n ∧ v = .int n := by
  rw [List.getElem?_map] at h
  cases e : ns[i]? with
  | none => rw [e] at h; cases h
  | some n => rw [e] at h; exact ⟨n, rfl, (Option.some.inj h).symm⟩
/-- i % n as a place -/
theorem mod_at {i : Int} {n : Nat} (h : 0 < n) : ∃ j : Nat, j < n ∧ i % (n : Int) = (j : Int) := by
  have h1 : 0 ≤ i % (n : Int) := Int.emod_nonneg i (by omega)
  have h2 : i % (n : Int) < (n : Int) := Int.emod_lt_of_pos i (by omega)
  exact ⟨(i % (n : Int)).toNat, by omega, by omega⟩
theorem ixN_nat {n j : Nat} (h : j < n) : ixN n (j : Int) = some j := by
  unfold ixN
  rw [if_pos (by omega), if_pos (by omega), Int.toNat_natCast]
theorem take_succ_at {α : Type} {l : List α} {i : Nat} {x : α} (h : l[i]? = some x) : l.take (i + 1) = l.take i ++ [x] := by
  rw [List.take_add_one, h]
  rfl
/-- a def of the top: where it stands -/
structure Def (K : PySem.W.Frag) (mg : Str → Option Value) (x : Str) (st : Stmt) (ps : List Str) (f : Addr) (fd : FuncData) : Prop where
  F : Fun K x x st f fd
  g : mg x = some (.ref f)
  b : Binds K fd ps []
/-! ### rules at a written K (for a comprehension's block) -/
section
variable {X : Cx} {K : PySem.W.Frag}
theorem ix_listK (h : X.K = K) : IxR X (rIxL K) := by subst h; exact ix_list
theorem ix_tupK (h : X.K = K) : IxR X (rIxT K) := by subst h; exact ix_tup
theorem call_len_seqK (h : X.K = K) : CallR X (.builtin "len") (fun xs H Q => ∃ p ys, xs = [.ref p] ∧ (SqL K H p ys ∨ SqT K H p ys) ∧ Q (.int ys.length) H) := by subst h; exact call_len_seq
theorem op_eqDK (h : X.K = K) (hu : X.A.units + 64 < cLine) : OpR X (compareOp .Eq) (rEqD K) := by subst h; exact op_eqD hu
theorem op_neDK (h : X.K = K) (hu : X.A.units + 64 < cLine) : OpR X (compareOp .NotEq) (rNeD K) := by subst h; exact op_neD hu
theorem cr_maxK (h : X.K = K) (hc : X.calm = true) : CallR X (.builtin "max") (rMax K) := by subst h; exact cr_max hc
theorem cr_sumK (h : X.K = K) (hc : X.calm = true) : CallR X (.builtin "sum") (rSum K) := by subst h; exact cr_sum hc
theorem call_list_ofK (h : X.K = K) : CallR X (.type "list") (fun xs H Q => ∃ p ys, xs = [.ref p] ∧ (SqL K H p ys ∨ SqT K H p ys) ∧ ∀ l, H l = none → Q (.ref l) (upd H l (.lst ys))) := by subst h; exact call_list_of
theorem pi_listK {tg l : Expr} {tl : TE} (h : X.K = K) (hl : PE X l tl) : PI X tg l (iList K tl) := by subst h; exact pi_list hl
theorem pi_tupK {tg l : Expr} {tl : TE} (h : X.K = K) (hl : PE X l tl) : PI X tg l (iTup K tl) := by subst h; exact pi_tup hl
theorem pg_tupK {es : List Expr} {k : Nat} {t : TGs} {n : Nat} {pos : Pos} (hK : X.K = K) (hc : X.calm = true) (h : PGs X es t)
    (hn : (assignEach es X.env).length = n := by rfl) (hst : (assignEach es X.env).findIdx? (·.1) = none := by rfl) : PG X (.Tuple es k pos) (gTup K n t) := by subst hK; exact pg_tup hc h hn hst
end
/-! ### a statement whose ends are joined by what holds behind it -/
def tCutI (t u : TS) : TS := fun D σ H => ∃ I : L2.St → Hp → Prop, t { D with nx := I } σ H ∧ ∀ σ' H', I σ' H' → u D σ' H'
theorem pss_cutI {X : Cx} {st : Stmt} {rest : List Stmt} {t u : TS} (h1 : PS X st t) (h2 : PSs X rest u) : PSs X (st :: rest) (tCutI t u) := by
  refine ⟨fun pins s σ H D I h => ?_⟩
  obtain ⟨J, h, hJ⟩ := h
  refine wpAny_execs_cons (thn (h1.run pins s σ H { D with nx := J } I h) fun f s1 q => ?_)
  cases f with
  | next =>
    obtain ⟨σ', H', I', q⟩ := q
    exact h2.run pins s1 σ' H' D I' (hJ σ' H' q)
  | ret v => exact q
  | brk => exact q
  | cont => exact q
/-- data: lists of lists of ints -/
abbrev dRows (rs : List (List Int)) : PyData := .list (rs.map fun r => .list (r.map PyData.int))
theorem lay_rows : ∀ rs : List (List Int), PyData.canLayAll0 (rs.map fun r => .list (r.map PyData.int)) = true
  | [] => by simp [PyData.canLayAll0]
  | r :: q => by
    have ih := lay_rows q
    have h1 := lay_ints r
    simp [PyData.canLayAll0, PyData.canLay0, ih, h1]
theorem depth_rows : ∀ rs : List (List Int), PyData.depthAll (rs.map fun r => .list (r.map PyData.int)) ≤ 1
  | [] => by simp [PyData.depthAll]
  | r :: q => by
    have ih := depth_rows q
    have h1 := depth_ints r
    simp only [List.map_cons, PyData.depthAll, PyData.depth]
    omega
theorem shaped_rows (rs : List (List Int)) : SeqAt.shaped (dRows rs) = true := by
  unfold SeqAt.shaped
  have h1 : PyData.canLay0 (dRows rs) = true := by
    simp only [PyData.canLay0]
    exact lay_rows rs
  have h2 : PyData.depth (dRows rs) ≤ 64 := by
    have := depth_rows rs
    simp only [PyData.depth]
    omega
  rw [h1, decide_eq_true h2]
  rfl
theorem eqv_self {d : PyData} (h : SeqAt.shaped d = true) : PyData.eqv d d = true := SeqAt.eqv_refl d (SeqAt.canLay_of_shaped h)
/-- the built-in names that the top leaves alone -/
structure Names (mg : Str → Option Value) : Prop where
  len : mg "len" = none
  range : mg "range" = none
  max : mg "max" = none
  list : mg "list" = none
  isinstance : mg "isinstance" = none
  int : mg "int" = none
  bool : mg "bool" = none
  enumerate : mg "enumerate" = none
  all : mg "all" = none
/-! ### generator expressions whose element is quiet: the def's code table may grow, all else stands -/
/-- what is no bare record is not the table -/
theorem tab_ne {X : Cx} {pins : List (Addr × Obj)} {σ : L2.St} {H1 : Hp} {s1 : Shared} {P : Addr} (I : Inv X pins σ H1 s1) (h : GxR.TabG H1 P) {b : Addr} {o : Obj} (e : s1.heap.get? b = some o) (c : o.cls ≠ .none ∨ ∀ vs, o.data ≠ .fields vs) : b ≠ P := by
  rintro rfl
  obtain ⟨ps, isTab, _⟩ := h
  have q : s1.heap.get? b = some { cls := .none, data := .fields ps } := I.hok b _ isTab
  cases q.symm.trans e
  exact c.elim (fun z => z rfl) (fun z => z _ rfl)
/-- from h2 to h3 the table at P has grown by some entries, and all else stands -/
structure Longer (P : Addr) (h2 h3 : Heap) (ps more : Array Value) : Prop where
  rest : Heap.ExtBut P h2 h3
  size : h2.objs.size ≤ h3.objs.size
  table : h3.get? P = some { cls := .none, data := .fields (ps ++ more) }
  good : TriplesOk (ps ++ more).toList
/-- the expression's own scope: the walked thing at «.0», its names, and captured ones that are cells of the def; for two names -/
structure GenS2 (sc scope : Scope) (xa xb : Str) : Prop where
  kind : scope.kind = .function
  co : scope.isCoroutine = false
  cell : ∀ y ∈ scope.names, y.2 ≠ .cell
  dot : scope.names.lookup (".0" : Str) = some NameKind.local
  la : scope.names.lookup xa = some .local
  lb : scope.names.lookup xb = some .local
  ne : xa ≠ xb
  free : ∀ y ∈ scope.names, y.2 = .free → sc.names.lookup y.1 = some .cell
/-- for one -/
structure GenS1 (sc scope : Scope) (x : Str) : Prop where
  kind : scope.kind = .function
  co : scope.isCoroutine = false
  cell : ∀ y ∈ scope.names, y.2 ≠ .cell
  dot : scope.names.lookup (".0" : Str) = some NameKind.local
  la : scope.names.lookup x = some .local
  free : ∀ y ∈ scope.names, y.2 = .free → sc.names.lookup y.1 = some .cell
/-- what is said of the thing that is walked: it was made in s1, and stands in t -/
structure Walkee (X : Cx) (pins : List (Addr × Obj)) (σ : L2.St) (H1 : Hp) (P : Addr) (fp wr : List Addr) (s1 t : Shared) : Prop where
  inv : Inv X pins σ H1 s1
  tab : GxR.TabG H1 P
  same : ∃ h n, t = { s1 with heap := h, toks := n }
  keep : ∀ b o, s1.heap.get? b = some o → t.heap.get? b = some o
  size : s1.heap.objs.size ≤ t.heap.objs.size
  low : ∀ b ∈ fp, b < t.heap.objs.size ∧ b ≠ P
  new : ∀ b ∈ wr, s1.heap.objs.size ≤ b
/-- the generator g, ready to be walked, in the state s5; F: what each turn hands out -/
def Walked (X : Cx) (pins : List (Addr × Obj)) (σ : L2.St) (H1 : Hp) (P : Addr) (n : Nat) (F : Nat → Value → Prop) (g : Addr) (s5 : Shared) : Prop :=
  ∃ (fp wr : List Addr) (G : Array GenState → Array GenState → Prop) (F' : Nat → Value → Prop) (St : Nat → Shared → Prop),
    WalksS X.prog X.w X.A.in1 g fp wr G n F' St ∧ St 0 s5 ∧ (∀ b ∈ fp, b < s5.heap.objs.size) ∧ (∀ i v, F' i v → F i v) ∧ ∀ s', Moved wr G s5 s' → ∃ H2, GxR.Tabbed P H1 H2 ∧ Inv X pins σ H2 s'
/-- what the element may lean on: the frame cenv, the depth, and a heap in which all that stood in s1 stands but for the table -/
structure Turned (X : Cx) (P : Addr) (sc : Scope) (s1 : Shared) (cenv : Env) (A' : Around) (u : Shared) : Prop where
  own : cenv.scope = sc
  cells : cenv.cells = cloFrom X.env.cells sc.names []
  glob : cenv.globals = mainGlobals
  blt : cenv.builtins = builtinsNs
  calm : A'.handled = none
  deep : A'.depth ≤ X.A.depth + 1
  units : A'.units ≤ X.A.units + 8
  still : ∀ b o, b ≠ P → s1.heap.get? b = some o → u.heap.get? b = some o
section
variable {X : Cx} {pins : List (Addr × Obj)} {σ : L2.St} {H1 : Hp} {s1 t : Shared} {c P : Addr} {fp wr : List Addr} {h2 h3 : Heap} {ps more : Array Value}
/-- the code of the expression is looked up, or laid: then the table is longer -/
theorem tab_opens {gpos : Pos} {q : Str} {scope : Scope} {t2 : Nat} {R : Value → Addr → Shared → Prop} (TB : GxR.TabB X.base X.mg c P) (code : X.env.code = .ref c) (I : Inv X pins σ H1 s1) (isTab : H1 P = some (.tbl ps)) (good : TriplesOk ps.toList)
    (keep : ∀ b o, s1.heap.get? b = some o → h2.get? b = some o) (h : ∀ cv h3 n more, Longer P h2 h3 ps more → R cv builtinsNs { s1 with heap := h3, toks := n }) :
    wpAny (model X.prog X.w) X.A (genexprCode X.env gpos q scope) (fun cv t => wpAny (model X.prog X.w) X.A (builtinsFor X.env.globals X.env.builtins) (fun bi u => R cv bi u) X.xe t) X.xe { s1 with heap := h2, toks := t2 } := by
  have table : h2.get? P = some { cls := .none, data := .fields ps } := keep P _ (I.hok P _ isTab)
  have head : PySem.W.CodeHd h2 c P := TB.code.keeps fun b o e => keep b o (I.bk b o e)
  have go : ∀ cv h3 n more, Longer P h2 h3 ps more → wpAny (model X.prog X.w) X.A (builtinsFor X.env.globals X.env.builtins) (fun bi u => R cv bi u) X.xe { s1 with heap := h3, toks := n } := by
    intro cv h3 n more L
    obtain ⟨at_, ob, given, away, _, notTab, inBase, cls, dict, plain⟩ := TB.bm
    have globals : h3.Ns X.env.globals X.mg := I.ok.glob ▸ ((I.mod.glob.keeps I.bk).keeps keep).extBut L.rest TB.gP
    exact wpAny_builtinsFor globals given away (L.rest _ _ notTab (keep _ _ (I.bk _ _ inBase))) cls dict plain (h cv h3 n more L)
  cases found : codeAmong gpos ps.toList
  · refine wpAny_genexprCodeX code (head.code table good) (head.tab table) found fun c' h' n rest below above isCode _ isTable _ => go _ h' n _ ⟨rest, Nat.le_trans below (Nat.le_of_lt above), isTable.2, ?_⟩
    obtain ⟨_, _, _, _, _, _, _, _, _, _, _, _, _, _, _, _, _, _, _, triples, _⟩ := isCode
    exact triples
  · refine wpAny_genexprCode_hit code (head.code table good) found (go _ h2 t2 #[] ⟨Heap.ExtBut.refl _ _, Nat.le_refl _, ?_, ?_⟩)
    · rw [Array.append_empty]
      exact table
    · rw [Array.append_empty]
      exact good
/-- when it has been walked: what was held is held, but for the longer table -/
theorem tab_closes {h5 : Heap} {n : Nat} {gs : GenState} {j : Nat} {wr' : List Addr} {s' : Shared} (I : Inv X pins σ H1 s1) (isTab : H1 P = some (.tbl ps)) (keep : ∀ b o, s1.heap.get? b = some o → h2.get? b = some o) (L : Longer P h2 h3 ps more)
    (bare : gs.bare = true) (on : ∀ b o, h3.get? b = some o → h5.get? b = some o) (new : ∀ b ∈ wr', s1.heap.objs.size ≤ b) (mv : Moved wr' (GenOnlyQ j) { s1 with heap := h5, gens := s1.gens.push gs, toks := n } s') : ∃ H2, GxR.Tabbed P H1 H2 ∧ Inv X pins σ H2 s' := by
  have old : ∀ {b o}, s1.heap.get? b = some o → b ∉ wr' := fun e z => Nat.lt_irrefl _ (Nat.lt_of_lt_of_le (Heap.lt_size e) (new _ z))
  have J := GxR.inv_tab (h' := s'.heap) (g' := s'.gens) (d' := s'.drawn) (t' := s'.toks) I isTab (fun b o far e => mv.heap b o (old e) (on b o (L.rest b o far (keep b o e)))) (mv.heap P _ (old (I.hok P _ isTab)) (on P _ L.table)) (AllBare.movedS (I.bare.push bare) mv)
  exact ⟨upd H1 P (.tbl (ps ++ more)), ⟨⟨_, upd_same, L.good⟩, fun _ far => upd_ne far⟩, (GxR.sh_eta s1 s' mv.os) ▸ J⟩
theorem Walkee.statics (K : Walkee X pins σ H1 P fp wr s1 t) : cStatics ≠ P ∧ cStatics ∉ wr := by
  obtain ⟨_, names, _⟩ := K.inv.nolimit
  constructor
  · rintro rfl
    obtain ⟨ps, isTab, _⟩ := K.tab
    obtain ⟨ob, _, _, there, isNs, _⟩ := names
    have q : s1.heap.get? cStatics = some { cls := .none, data := .fields ps } := K.inv.hok _ _ isTab
    cases q.symm.trans there
    cases isNs
  · exact fun z => Nat.lt_irrefl _ (Nat.lt_of_lt_of_le names.lt (K.new _ z))
/-- all that stood in s1 stands where an element is reckoned -/
theorem Walkee.turned {scope : Scope} {code : Value} {href : Heap} {A' : Around} {u : Shared} (K : Walkee X pins σ H1 P fp wr s1 t) (L : Longer P t.heap h3 ps more) (on : ∀ b o, h3.get? b = some o → href.get? b = some o) (calm : A'.handled = none) (deep : A'.depth ≤ X.A.depth + 1) (units : A'.units ≤ X.A.units + 8)
    (still : ∀ b ∈ List.range h3.objs.size, b ∉ wr → ∀ o, href.get? b = some o → u.heap.get? b = some o) : Turned X P scope s1 (genEnv scope (cloFrom X.env.cells scope.names []) h3.objs.size code builtinsNs X.env) A' u where
  own := rfl
  cells := rfl
  glob := K.inv.ok.glob
  blt := rfl
  calm := calm
  deep := deep
  units := units
  still := fun b o far e =>
    have e3 := L.rest b o far (K.keep b o e)
    still b (List.mem_range.mpr (Heap.lt_size e3)) (fun z => Nat.lt_irrefl _ (Nat.lt_of_lt_of_le (Heap.lt_size e) (K.new b z))) o (on b o e3)
/-- the made generator is ready -/
theorem Walkee.ready {n : Nat} {F : Nat → Value → Prop} {g : Addr} {h5 : Heap} {n3 n5 : Nat} {gs : GenState} {j : Nat} {wr' fp' : List Addr} {St : Nat → Shared → Prop} (K : Walkee X pins σ H1 P fp wr s1 t) (isTab : H1 P = some (.tbl ps)) (L : Longer P t.heap h3 ps more)
    (bare : gs.bare = true) (above : h3.objs.size < g) (size : h5.objs.size = g + 1) (on : ∀ b o, h3.get? b = some o → h5.get? b = some o) (hf : ∀ b ∈ fp', b = g ∨ b = h3.objs.size ∨ b < h3.objs.size) (hw : ∀ b ∈ wr', b = h3.objs.size ∨ b ∈ wr)
    (W : WalksS X.prog X.w X.A.in4 g fp' wr' (GenOnlyQ j) (passing (fun _ => true) n 0).length (fun j y => ∃ i, (passing (fun _ => true) n 0)[j]? = some i ∧ F i y) St) (st : St 0 { ({ s1 with heap := h3, toks := n3 } : Shared) with gens := s1.gens.push gs, toks := n5, heap := h5 }) :
    Walked X pins σ H1 P n F g { ({ s1 with heap := h3, toks := n3 } : Shared) with gens := s1.gens.push gs, toks := n5, heap := h5 } := by
  rw [GxR.passing_true, List.length_range] at W
  refine ⟨_, _, _, _, _, W.in4_1, st, fun b hb => ?_, fun j y hy => ?_, fun s' mv => tab_closes K.inv isTab K.keep L bare on (fun b hb => ?_) mv⟩
  · show b < h5.objs.size
    rw [size]
    rcases hf b hb with rfl | rfl | z
    · exact Nat.lt_succ_self _
    · exact Nat.lt_succ_of_lt above
    · exact Nat.lt_succ_of_lt (Nat.lt_trans z above)
  · obtain ⟨i, at_, q⟩ := hy
    obtain ⟨_, e⟩ := List.getElem?_eq_some_iff.mp at_
    rw [List.getElem_range] at e
    exact e ▸ q
  · rcases hw b hb with rfl | z
    · exact Nat.le_trans K.size L.size
    · exact K.new b z
end
section
variable {X : Cx} {pins : List (Addr × Obj)} {σ : L2.St} {H : Hp} {s : Shared} {c P : Addr} {k : Nat} {Q' : Value → Shared → Prop}
/-- (element for a, b in iter): what is walked hands out pairs; the element gives what F says -/
theorem gen_pairs {elt iter : Expr} {xa xb : Str} {pa pb pt gpos : Pos} {kt : Nat} {scope : Scope} (hr : Room k X.A) (TB : GxR.TabB X.base X.mg c P) (hcode : X.env.code = .ref c) (S : GenS2 X.env.scope scope xa xb) (hs : ∀ v, genFold iter X.env v = pure v) (I : Inv X pins σ H s)
    (h : wpAny (model X.prog X.w) X.A (eval iter X.env) (fun xv t => wpAny (model X.prog X.w) X.A (pyIter xv) (fun it t2 => ∃ (Iad : Addr) (fp wr : List Addr) (n : Nat) (Pt : Nat → Array Value → Prop) (St : Nat → Heap → Prop) (Mid : Nat → Addr → Heap → Prop) (F : Nat → Value → Prop) (q : List (Addr × Obj)) (σ1 : L2.St) (H1 : Hp) (s1 : Shared),
      it = .ref Iad ∧ Walkee X q σ1 H1 P fp wr s1 t2 ∧ (∀ A' : Around, A'.handled = none → WalksU X.prog X.w A' Iad fp wr n Pt St Mid) ∧ (∀ i vals, Pt i vals → ∃ va vb, vals = #[va, vb]) ∧ St 0 t2.heap ∧
      (∀ (cenv : Env) (A' : Around) (E' : Value → Shared → Prop) (i : Nat) (va vb : Value) (u : Shared) (m : Str → Option Value), Turned X P scope s1 cenv A' u → Pt i #[va, vb] → u.heap.Ns cenv.locals m → m xa = some va → m xb = some vb →
        wpAny (model X.prog X.w) A' (eval elt cenv) (fun y u' => F i y ∧ Keeps u u') E' u) ∧
      ∀ g s5, Walked X q σ1 H1 P n F g s5 → Q' (.ref g) s5) X.xe t) X.xe s) :
    wpAny (model X.prog X.w) X.A (eval (.GeneratorExp elt [⟨.Tuple [.Name xa pa, .Name xb pb] kt pt, iter, [], 0⟩] scope gpos) X.env) Q' X.xe s := by
  have room := hr.dp
  refine wpAny_GeneratorExp_walksQTD hr.hd S.co (closure_ok fun y hy e => I.ok.has y.1 (.inl (S.free y hy e))) S.cell S.dot S.la S.lb S.ne S.kind (by omega) (wpAny_mono h (fun xv t h => wpAny_mono h (fun it t2 h => ?_) fun _ _ e => e) fun _ _ e => e) hs
  obtain ⟨Iad, fp, wr, n, Pt, St, Mid, F, q, σ1, H1, s1, rfl, K, W, two, st, turn, out⟩ := h
  obtain ⟨ps, isTab, good⟩ := K.tab
  obtain ⟨h2, n2, rfl⟩ := K.same
  have lim : h2.NoLimit := K.inv.nolimit.keeps K.keep
  refine ⟨lim, tab_opens TB hcode K.inv isTab good K.keep fun cv h3 n3 more L => ⟨Iad, fp, wr, n, Pt, St, Mid, fun _ => true, F, rfl, W, two, (W X.A hr.hd).frame _ _ _ st fun b hb o e => L.rest b o (K.low b hb).2 e, fun b hb => Nat.lt_of_lt_of_le (K.low b hb).1 L.size, lim.extBut L.rest K.statics.1, K.statics.2, fun href on => ⟨?_, ?_⟩, ?_⟩⟩
  · intro A' E' i va vb u m _ _ _ _ _ _ _ _
    exact wpAny_pure ⟨rfl, GxR.keeps_refl _⟩
  · intro A' E' i va vb u m calm deep units at_ _ ns ma mb still
    exact turn _ A' E' i va vb u m (K.turned L on calm deep units still) at_ ns ma mb
  · intro g h5 n5 gs bare above size on W5 st5
    refine out g _ (K.ready isTab L bare above size on (fun b hb => ?_) (fun b hb => List.mem_cons.mp hb) W5 st5)
    exact (List.mem_cons.mp hb).imp_right fun z => (List.mem_cons.mp z).imp_right List.mem_range.mp
/-- (element for a in iter) -/
theorem gen_ones {elt iter : Expr} {x : Str} {px gpos : Pos} {scope : Scope} (hr : Room k X.A) (TB : GxR.TabB X.base X.mg c P) (hcode : X.env.code = .ref c) (S : GenS1 X.env.scope scope x) (hs : ∀ v, genFold iter X.env v = pure v) (I : Inv X pins σ H s)
    (h : wpAny (model X.prog X.w) X.A (eval iter X.env) (fun xv t => wpAny (model X.prog X.w) X.A (pyIter xv) (fun it t2 => ∃ (Iad : Addr) (fp wr : List Addr) (n : Nat) (Pt : Nat → Value → Prop) (St : Nat → Heap → Prop) (F : Nat → Value → Prop) (q : List (Addr × Obj)) (σ1 : L2.St) (H1 : Hp) (s1 : Shared),
      it = .ref Iad ∧ Walkee X q σ1 H1 P fp wr s1 t2 ∧ (∀ A' : Around, A'.handled = none → Walks X.prog X.w A' Iad fp wr n Pt St) ∧ St 0 t2.heap ∧
      (∀ (cenv : Env) (A' : Around) (E' : Value → Shared → Prop) (i : Nat) (va : Value) (u : Shared) (m : Str → Option Value), Turned X P scope s1 cenv A' u → Pt i va → u.heap.Ns cenv.locals m → m x = some va →
        wpAny (model X.prog X.w) A' (eval elt cenv) (fun y u' => F i y ∧ Keeps u u') E' u) ∧
      ∀ g s5, Walked X q σ1 H1 P n F g s5 → Q' (.ref g) s5) X.xe t) X.xe s) :
    wpAny (model X.prog X.w) X.A (eval (.GeneratorExp elt [⟨.Name x px, iter, [], 0⟩] scope gpos) X.env) Q' X.xe s := by
  have room := hr.dp
  refine wpAny_GeneratorExp_walksQD hr.hd S.co (closure_ok fun y hy e => I.ok.has y.1 (.inl (S.free y hy e))) S.cell S.dot S.la S.kind (by omega) (wpAny_mono h (fun xv t h => wpAny_mono h (fun it t2 h => ?_) fun _ _ e => e) fun _ _ e => e) hs
  obtain ⟨Iad, fp, wr, n, Pt, St, F, q, σ1, H1, s1, rfl, K, W, st, turn, out⟩ := h
  obtain ⟨ps, isTab, good⟩ := K.tab
  obtain ⟨h2, n2, rfl⟩ := K.same
  have lim : h2.NoLimit := K.inv.nolimit.keeps K.keep
  refine ⟨lim, tab_opens TB hcode K.inv isTab good K.keep fun cv h3 n3 more L => ⟨Iad, fp, wr, n, Pt, St, fun _ => true, F, rfl, W, (W X.A hr.hd).frame _ _ _ st fun b hb o e => L.rest b o (K.low b hb).2 e, fun b hb => Nat.lt_of_lt_of_le (K.low b hb).1 L.size, lim.extBut L.rest K.statics.1, K.statics.2, fun href on => ⟨?_, ?_⟩, ?_⟩⟩
  · intro A' E' i va u m _ _ _ _ _ _ _
    exact wpAny_pure ⟨rfl, GxR.keeps_refl _⟩
  · intro A' E' i va u m calm deep units at_ _ ns ma still
    exact turn _ A' E' i va u m (K.turned L on calm deep units still) at_ ns ma
  · intro g h5 n5 gs bare above size on W5 st5
    refine out g _ (K.ready isTab L bare above size on (fun b hb => ?_) (fun b hb => List.mem_cons.mp hb) W5 st5)
    exact (List.mem_cons.mp hb).imp_right fun z => (List.mem_cons.mp z).imp_right List.mem_range.mp
/-- a built-in function of a generator expression alone -/
theorem call_gen {b : Str} {f : String} {ge : Expr} {p pos : Pos} {R : Value → Shared → Prop} (hg : Gl X b) (hm : X.mg b = none) (hb : bootBuiltins b = some (.builtin f)) (he : starEach [ge] X.env = (false, eval ge X.env) :: starEach [] X.env) (I : Inv X pins σ H s)
    (h : wpAny (model X.prog X.w) X.A (eval ge X.env) (fun v t => wpAny (model X.prog X.w) X.A (call (.builtin f) [v]) R X.xe t) X.xe s) (hd : (b == ("__debug__" : Str)) = false := by decide) (hn : b ≠ "__name__" := by decide) :
    wpAny (model X.prog X.w) X.A (eval (.Call (.Name b p) [ge] [] pos) X.env) R X.xe s := by
  refine wpAny_Call_Name_kw (ld_blt I hg hm hb (PyProof.Rows.callWith_builtin1 ?_ he (by rfl)) hn hd)
  rw [he]
  exact Calls.spliced_cons (wpAny_mono h (fun v t h => Calls.spliced_nil h) fun _ _ e => e)
theorem truth_of {A : Around} {F' : Nat → Value → Prop} {pb : Nat → Bool} (h : ∀ i v, F' i v → v = .bool (pb i)) : TruthOf X.prog X.w A F' pb := by
  intro i v t Q E at_ q
  cases h i v at_
  exact wpAny_truthy_bool q
end
/-! ### had -/
abbrev s_had : Stmt := topS 1
abbrev N_had : List Str := ["content", "thing"]
theorem sc_had : FnScope N_had ["content", "thing"] (defScope s_had) := ⟨rfl, rfl, rfl, by decide +kernel, rfl, by decide +kernel, by decide +kernel⟩

def hadM (cs : List Int) (i : Nat) : Int := cs.getD i 0
theorem hadM_in {cs : List Int} {i : Nat} (h : i < cs.length) : cs[i]? = some (hadM cs i) := by
  unfold hadM
  rw [List.getD_eq_getElem?_getD, List.getElem?_eq_getElem h]
  rfl
theorem hadM_out {cs : List Int} {i : Nat} (h : ¬ i < cs.length) : hadM cs i = 0 := by
  unfold hadM
  rw [List.getD_eq_getElem?_getD, List.getElem?_eq_none (by omega)]
  rfl
def sp_had (K : PySem.W.Frag) : Sp := fun vs H Q _ => ∃ (a : Addr) (cs : List Int) (i : Nat), vs = [.ref a, .int i] ∧ SqL K H a (cs.map V.int) ∧ Q (.int (hadM cs i)) H
section
variable {P : Program} {w : World} {K : PySem.W.Frag} {mg : Str → Option Value} {base : Heap}
theorem ok_had {f : Addr} {fd : FuncData} {k : Nat} (M : Names mg) (D : Def K mg "had" s_had ["content", "thing"] f fd) : FnOk P w K mg base CX0 (k + 1) f fd ["content", "thing"] (sp_had K) := by
  refine D.F.ok sc_had (fun vs H Q E h => ?_) (fun cdv A outer s H vs Q E hr h => ?_)
  · obtain ⟨a, cs, i, rfl, _⟩ := h
    rfl
  · obtain ⟨a, cs, i, rfl, ha, q⟩ := h
    refine ⟨_, (pss_one (ps_ret (pe_ifExp (pt_cmpR op_lt (pv 1) (pe_callB call_len_seq (by rfl) M.len (by decide +kernel) (pa_cons (pv 0) pa_nil)) (nomark _)) (pe_ix ix_list (pv 0) (pv 1) (fun _ _ => rfl)) pe_int))), ?_⟩
    refine ⟨_, rfl, _, rfl, a, _, rfl, .inl ha, _, _, rfl, rfl, _, rfl, ite2 (fun c => ?_) (fun c => ?_)⟩
    · have c2 : (i : Int) < ((cs.map V.int).length : Int) := of_decide_eq_true c
      rw [List.length_map] at c2
      exact ⟨_, rfl, _, rfl, a, _, _, _, rfl, rfl, ha, atI_nat (get_ints (hadM_in (by omega))), q⟩
    · have c2 : ¬ (i : Int) < ((cs.map V.int).length : Int) := fun z => c (decide_eq_true z)
      rw [List.length_map] at c2
      rw [hadM_out (by omega)] at q
      exact q
/-- had, called where nothing is known of the frames: all objects stay -/
theorem had_quiet {f : Addr} {fd : FuncData} {mb : Str → Option Value} (M : Names mg) (D : Def K mg "had" s_had ["content", "thing"] f fd) {A' : Around} {E' : Value → Shared → Prop} {s : Shared} {L : Addr} {cs : List Int} {its : List Value} {i : Nat} {t : Tok} (KX : K.In s.heap)
    (hg : s.heap.Ns mainGlobals mg) (hb : s.heap.Ns builtinsNs mb) (hbb : ∀ x : Str, x ≠ "__name__" → mb x = bootBuiltins x) (hlim : s.heap.NoLimit) (hA : A'.depth < recursionLimit)
    (hL : s.heap.IsList L its.toArray) (rv : Vals (cs.map V.int) its) (hz : cs.length ≤ sizeLine) :
    wpAny (model P w) A' (call (.ref f) [.ref L, .int i t]) (fun y s₃ => (∃ t', y = .int (hadM cs i) t') ∧ Keeps s s₃) E' s := by
  obtain ⟨oc, od, kV, doc, pm, an, cdv, ct, osl, rfl, lk, hcd⟩ := D.F.ex
  refine wpAny_call (Att.call_fn KX hlim lk hcd hA (D.b s [.ref L, .int i t] KX rfl) (by rfl) (fun s₁ x => ?_) rfl rfl rfl)
  obtain ⟨h1, tk1, e1, keep1⟩ := x.done
  have hn := x.toInCall.ns
  subst e1
  have hL1 : h1.IsList L its.toArray := hL.at fun o e => keep1 L o e
  have hll := rv.length
  rw [List.length_map] at hll
  have hn63 := line63
  have fin : ∀ (v : Value) (s' : Shared), (∃ t', v = .int (hadM cs i) t') → Keeps { s with heap := h1, toks := tk1 } s' → (∃ t', v = .int (hadM cs i) t') ∧ Keeps s s' := fun v s' hv ⟨h', tk', e, kk⟩ => ⟨hv, h', tk', e, fun b o e => kk b o (keep1 b o e)⟩
  have nameC : ∀ {Q : Value → Shared → Prop} {E : Value → Shared → Prop} {pos : Pos} {tk : Nat}, Q (.ref L) { s with heap := h1, toks := tk } → wpAny (model P w) (A'.deeper (envOfC "had" (defScope s_had) s.heap.objs.size f cdv)) (eval (.Name "content" pos) (envOfC "had" (defScope s_had) s.heap.objs.size f cdv)) Q E { s with heap := h1, toks := tk } := fun h => wpAny_Name (wpAny_loadName_local rfl rfl hn rfl h)
  have nameT : ∀ {Q : Value → Shared → Prop} {E : Value → Shared → Prop} {pos : Pos} {tk : Nat}, Q (.int i t) { s with heap := h1, toks := tk } → wpAny (model P w) (A'.deeper (envOfC "had" (defScope s_had) s.heap.objs.size f cdv)) (eval (.Name "thing" pos) (envOfC "had" (defScope s_had) s.heap.objs.size f cdv)) Q E { s with heap := h1, toks := tk } := fun h => wpAny_Name (wpAny_loadName_local rfl rfl hn rfl h)
  show wpAny _ _ (execs (defBody s_had) (envOfC "had" (defScope s_had) s.heap.objs.size f cdv)) _ _ _
  refine wpAny_execs_cons (wpAny_Return_some (wpAny_IfExp (wpAny_isTrue_Compare1 (nameT ?_))))
  refine wpAny_Call_Name_kw (Calls.Name_function_global rfl rfl (Calls.loadGlobal_builtin (hg.keeps keep1) M.len (hb.keeps keep1) ((hbb "len" (by decide)).trans boot_len) ?_))
  refine PyProof.Rows.callWith_builtin1 (Calls.spliced_cons (nameC (Calls.spliced_nil ?_)))
  refine Calls.call_len_list (hl := hL1) (by rw [List.size_toArray]; omega) ?_
  refine lt_int (wpAny_truthy_bool ?_)
  by_cases c : (i : Int) < (its.toArray.size : Int)
  · rw [decide_eq_true c]
    rw [List.size_toArray] at c
    have hi : i < cs.length := by omega
    obtain ⟨u, hu, ru⟩ := rv.get (get_ints (hadM_in hi))
    obtain ⟨t', rfl⟩ := ru
    refine Subscript_ (nameC (nameT ?_))
    refine item_listR hL1 (by omega) (by omega) (x := .int (hadM cs i) t') (by rw [Int.toNat_natCast]; simpa using hu) ?_
    exact fin _ _ ⟨t', rfl⟩ ⟨_, _, rfl, fun b o e => e⟩
  · rw [decide_eq_false c]
    rw [List.size_toArray] at c
    refine wpAny_Constant_int ?_
    exact fin _ _ ⟨_, by rw [hadM_out (by omega)]⟩ ⟨_, _, rfl, fun b o e => e⟩
end
/-! ### all(test for a, b in enumerate(list)) -/
def tAllE (K : PySem.W.Frag) (P : Addr) (R : L2.St → Hp → List V → (Nat → Bool) → Prop) (te : TE) : TE := fun σ H Q => te σ H fun v H1 => ∃ (a : Addr) (xs : List V) (pb : Nat → Bool), v = .ref a ∧ SqL K H1 a xs ∧ GxR.TabG H1 P ∧ R σ H1 xs pb ∧
  ∀ H2, GxR.Tabbed P H1 H2 → Q (.bl ((List.range xs.length).all pb)) H2
/-- what the element is to do at one pair -/
def EltE (X : Cx) (P : Addr) (scope : Scope) (xa xb : Str) (elt : Expr) (R : L2.St → Hp → List V → (Nat → Bool) → Prop) : Prop :=
  ∀ (pins : List (Addr × Obj)) (σ : L2.St) (H1 : Hp) (s1 : Shared) (xs : List V) (pb : Nat → Bool), Inv X pins σ H1 s1 → GxR.TabG H1 P → R σ H1 xs pb →
    ∀ (cenv : Env) (A' : Around) (E' : Value → Shared → Prop) (i : Nat) (v : V) (va vb : Value) (s₂ : Shared) (m₂ : Str → Option Value), cenv.scope = scope → cenv.cells = cloFrom X.env.cells scope.names [] → cenv.globals = mainGlobals → cenv.builtins = builtinsNs →
      A'.handled = none → A'.depth ≤ X.A.depth + 1 → A'.units ≤ X.A.units + 8 → xs[i]? = some v → (∃ t, va = .int (i : Nat) t) → RelV v vb → s₂.heap.Ns cenv.locals m₂ → m₂ xa = some va → m₂ xb = some vb → (∀ b o, b ≠ P → s1.heap.get? b = some o → s₂.heap.get? b = some o) →
      wpAny (model X.prog X.w) A' (eval elt cenv) (fun y s₃ => y = .bool (pb i) ∧ Keeps s₂ s₃) E' s₂
section
variable {X : Cx}
theorem pe_allEnum {c P : Addr} {elt e : Expr} {xa xb : Str} {pa pb' pt p pos gpos epos ep : Pos} {kt : Nat} {scope : Scope} {te : TE} {k : Nat} {R : L2.St → Hp → List V → (Nat → Bool) → Prop}
    (hr : Room k X.A) (hg : Gl X "all") (hm : X.mg "all" = none) (hb : bootBuiltins "all" = some (.builtin "all")) (hge : Gl X "enumerate") (hme : X.mg "enumerate" = none) (TB : GxR.TabB X.base X.mg c P) (hcode : X.env.code = .ref c) (S : GenS2 X.env.scope scope xa xb) (hi : PE X e te)
    (hel : EltE X P scope xa xb elt R)
    (hs : ∀ v, genFold (.Call (.Name "enumerate" ep) [e] [] epos) X.env v = pure v := by intro _; rfl)
    (hs1 : starEach [e] X.env = [(false, eval e X.env)] := by rfl)
    (he : starEach [.GeneratorExp elt [⟨.Tuple [.Name xa pa, .Name xb pb'] kt pt, .Call (.Name "enumerate" ep) [e] [] epos, [], 0⟩] scope gpos] X.env = (false, eval (.GeneratorExp elt [⟨.Tuple [.Name xa pa, .Name xb pb'] kt pt, .Call (.Name "enumerate" ep) [e] [] epos, [], 0⟩] scope gpos) X.env) :: starEach [] X.env := by rfl) :
    PE X (.Call (.Name "all" p) [.GeneratorExp elt [⟨.Tuple [.Name xa pa, .Name xb pb'] kt pt, .Call (.Name "enumerate" ep) [e] [] epos, [], 0⟩] scope gpos] [] pos) (tAllE X.K P R te) := by
  refine ⟨fun pins s σ H Q I h => call_gen hg hm hb he I (gen_pairs hr TB hcode S hs I (Call_ (ld_blt I hge hme boot_enumerate (PyProof.Rows.callWith_type1 ?_ hs1 rfl))))⟩
  rw [hs1]
  refine Calls.spliced_cons (thn (hi.run pins s σ H _ I h) fun u0 s1 r => Calls.spliced_nil ?_)
  obtain ⟨_, H1, J, isRef, a, xs, pb, rfl, sq, tab, hR, q⟩ := r
  cases isRef
  obtain ⟨its, rv, at_, _⟩ := J.list sq
  refine call_enumerate_list at_.isList fun h' isEn isIt size keep => wpAny_pyIter_enum isEn ?_
  have la : a < s1.heap.objs.size := at_.lt
  have below : s1.heap.objs.size < h'.objs.size := isIt.elim fun _ x => Heap.lt_size x.1
  obtain ⟨oa, ea, ca, _⟩ := id at_.isList
  have aP : a ≠ P := tab_ne J tab ea (.inl fun z => by rw [ca] at z; cases z)
  have lP : P < s1.heap.objs.size := tab.elim fun _ x => Heap.lt_size (show s1.heap.get? P = _ from J.hok P _ x.1)
  have W := fun (A' : Around) (calm : A'.handled = none) => (WalksT.enumerate (prog := X.prog) (w := X.w) calm (s1.heap.objs.size + 1) s1.heap.objs.size a (Nat.succ_ne_self _) (Nat.ne_of_lt (Nat.lt_succ_of_lt la)) (Nat.ne_of_lt la) its.toArray).toU
  refine ⟨_, _, _, _, _, _, _, fun i y => y = .bool (pb i), pins, σ, H1, s1, rfl, ⟨J, tab, ⟨_, _, rfl⟩, keep, Nat.le_of_lt below, fun b hb => ?_, fun b hb => ?_⟩, W, fun i vals x => ?_, ⟨⟨_, isEn⟩, isIt, at_.isList.at fun o x => keep a o x⟩, ?_, ?_⟩
  · simp only [List.mem_cons, List.not_mem_nil, or_false] at hb
    rcases hb with rfl | rfl | rfl
    · exact ⟨Heap.lt_size isEn, Nat.ne_of_gt (Nat.lt_succ_of_lt lP)⟩
    · exact ⟨below, Nat.ne_of_gt lP⟩
    · exact ⟨Nat.lt_trans la below, aP⟩
  · simp only [List.mem_cons, List.not_mem_nil, or_false] at hb
    rcases hb with rfl | rfl
    · exact Nat.le_succ _
    · exact Nat.le_refl _
  · exact x.elim fun _ x => x.elim fun _ x => ⟨_, _, x.2⟩
  · intro cenv A' E' i va vb u m T at_ ns ma mb
    obtain ⟨t, x, hx, e'⟩ := at_
    obtain ⟨rfl, rfl⟩ : va = .int i t ∧ vb = x := by simpa using congrArg Array.toList e'
    have there : its[i]? = some vb := by simpa using hx
    obtain ⟨v, hv⟩ : ∃ v, xs[i]? = some v := ⟨_, List.getElem?_eq_getElem (rv.length.symm ▸ (List.getElem?_eq_some_iff.mp there).1)⟩
    obtain ⟨w, hw, rw_⟩ := rv.get hv
    cases there.symm.trans hw
    exact hel pins σ H1 s1 xs pb J tab hR cenv A' E' i v _ _ u m T.own T.cells T.glob T.blt T.calm T.deep T.units hv ⟨t, rfl⟩ rw_ ns ma mb T.still
  · rintro g s5 ⟨fp, wr, G, F', St, W, st, _, say, held⟩
    refine call_all_walkS (W.self 0 _ _ _ st ⟨g, fp, wr, G, _, F', St, pb, rfl, W, st, truth_of say, fun s' mv => ?_⟩)
    obtain ⟨H2, grown, J2⟩ := held s' mv
    refine ⟨.bl _, H2, J2, rfl, ?_⟩
    rw [List.size_toArray, ← rv.length]
    exact q H2 grown
end
/-- F.ok with the code object told -/
theorem okc {P : Program} {w : World} {K : PySem.W.Frag} {mg : Str → Option Value} {base : Heap} {x qual : Str} {st : Stmt} {f c : Addr} {fd : FuncData} {N ps : List Str} {k : Nat} {sp : Sp} (F : Fun K x qual st f fd) (hc : fd.code = .ref c) (S : FnScope N ps (defScope st)) (len : ∀ vs H Q E, sp vs H Q E → vs.length = ps.length)
    (hbody : ∀ (cdv : Value) (A : Around) (outer : List Env) (s : Shared) (H : Hp) (vs : List V) (Q : VK) (E : XK), cdv = .ref c → Room k (A.deeper (envOfC qual (defScope st) s.heap.objs.size f cdv)) → sp vs H Q E →
      ∃ t, PSs (cxOf CX0 P w K mg base N qual (defScope st) f cdv A outer s H E).nox (defBody st) t ∧ t { nx := fun _ H' => Q .non H', rt := Q } (start N vs) H) : FnOk P w K mg base CX0 (k + 1) f fd ps sp := by
  obtain ⟨oc, od, kV, doc, pm, an, cdv, ct, osl, rfl, lk, hcd⟩ := F.ex
  refine fn_of lk hcd S len fun A outer s H vs Q E hr hsp => ?_
  obtain ⟨t, h, q⟩ := hbody cdv A outer s H vs Q E hc hr hsp
  exact ⟨t, h.nox, q⟩
/-! ### covers, rest -/
abbrev s_covers : Stmt := topS 2
abbrev N_covers : List Str := ["content", "want", "thing", "number"]
theorem sc_covers : FnScope N_covers ["content", "want"] (defScope s_covers) := ⟨rfl, rfl, rfl, by decide +kernel, rfl, by decide +kernel, by decide +kernel⟩

abbrev s_rest : Stmt := topS 3
abbrev N_rest : List Str := ["want", "content", "thing", "number"]
theorem sc_rest : FnScope N_rest ["want", "content"] (defScope s_rest) := ⟨rfl, rfl, rfl, by decide +kernel, rfl, by decide +kernel, by decide +kernel⟩

def coversM (cs ws : List Int) : Bool := (List.range ws.length).all fun i => decide (ws.getD i 0 ≤ hadM cs i)
def sp_covers (K : PySem.W.Frag) (P : Addr) : Sp := fun vs H Q _ => ∃ (a b : Addr) (cs ws : List Int), vs = [.ref a, .ref b] ∧ SqL K H a (cs.map V.int) ∧ SqL K H b (ws.map V.int) ∧ GxR.TabG H P ∧ ∀ H', GxR.Tabbed P H H' → Q (.bl (coversM cs ws)) H'
/-- the element: had(content, thing) >= number -/
def RCov (K : PySem.W.Frag) : L2.St → Hp → List V → (Nat → Bool) → Prop := fun σ H xs pb => ∃ (a : Addr) (cs ws : List Int), σ[0]? = some (some (.ref a)) ∧ SqL K H a (cs.map V.int) ∧ xs = ws.map V.int ∧ pb = fun i => decide (ws.getD i 0 ≤ hadM cs i)
section
variable {P : Program} {w : World} {K : PySem.W.Frag} {mg : Str → Option Value} {base : Heap}
theorem ok_covers {f fh c T : Addr} {fd fdh : FuncData} {k : Nat} (M : Names mg) (D : Def K mg "covers" s_covers ["content", "want"] f fd) (hc : fd.code = .ref c) (TB : GxR.TabB base mg c T) (D_had : Def K mg "had" s_had ["content", "thing"] fh fdh) :
    FnOk P w K mg base CX0 (k + 2) f fd ["content", "want"] (sp_covers K T) := by
  refine okc D.F hc sc_covers (fun vs H Q E h => ?_) (fun cdv A outer s H vs Q E ec hr h => ?_)
  · obtain ⟨a, b, cs, ws, rfl, _⟩ := h
    rfl
  · obtain ⟨a, b, cs, ws, rfl, ha, hb, hT, q⟩ := h
    refine ⟨_, pss_one (ps_ret (pe_allEnum (R := RCov K) hr (by rfl) M.all (by decide +kernel) (by rfl) M.enumerate TB ec ⟨rfl, rfl, by decide +kernel, rfl, rfl, rfl, by decide, (by show ∀ y : Str × NameKind, y ∈ _ → y.2 = .free → (defScope s_covers).names.lookup y.1 = some .cell; decide +kernel)⟩ (pv 1) ?_)), ?_⟩
    · intro pins σ H1 s1 xs pb I1 hT1 hR cenv A' E' i v va vb s₂ m₂ c1 c2 c3 c4 c5 c6 c7 hv hva rvb hn hma hmb hk
      obtain ⟨a1, cs1, ws1, e0, hS1, rfl, rfl⟩ := hR
      obtain ⟨t, rfl⟩ := hva
      obtain ⟨n, hnn, rfl⟩ := of_get_ints hv
      obtain ⟨t2, rfl⟩ := rvb
      obtain ⟨m1, hns1, hl1⟩ := I1.loc
      obtain ⟨u, ru, lk⟩ := hl1 0 "content" _ rfl e0 (.inr (.inl rfl))
      cases ru
      rcases lk with ⟨kk, _⟩ | ⟨_, cc, hcc, hcell⟩
      · exact absurd (show (defScope s_covers).names.lookup ("content" : Str) = some .local from kk) (by decide +kernel)
      · obtain ⟨its, rv, pl, hz⟩ := I1.list hS1
        rw [List.length_map] at hz
        obtain ⟨oc, eoc, doc⟩ := id hcell
        have ncP : cc ≠ T := tab_ne I1 hT1 eoc (.inr fun vs z => by rw [doc] at z; cases z)
        obtain ⟨oa, ea, ca, na, da⟩ := id pl.isList
        have naP : a1 ≠ T := tab_ne I1 hT1 ea (.inl (by rw [ca]; exact fun z => nomatch z))
        have keepB : ∀ b o, base.get? b = some o → s₂.heap.get? b = some o := fun b o e => hk b o (fun z => by
          obtain ⟨ps, hP, _⟩ := hT1
          have := (I1.bs b o e).2
          rw [z, hP] at this
          cases this) (I1.bk b o e)
        have KX : K.In s₂.heap := I1.ok.mod.kin.keeps keepB
        have hG : s₂.heap.Ns mainGlobals mg := I1.ok.mod.glob.keeps keepB
        obtain ⟨mb, hB, hbb⟩ := I1.ok.mod.blt
        have hcell2 : s₂.heap.IsCell cc (some (.ref a1)) := ⟨oc, hk _ _ ncP eoc, doc⟩
        have hL2 : s₂.heap.IsList a1 its.toArray := pl.isList.at fun o e => hk _ _ naP e
        have hcl : cenv.cells.lookup ("content" : Str) = some cc := by
          rw [c2]
          show some (((envOfC "covers" (defScope s_covers) s.heap.objs.size f cdv).cells.lookup ("content" : Str)).getD 0) = some cc
          rw [show (envOfC "covers" (defScope s_covers) s.heap.objs.size f cdv).cells.lookup ("content" : Str) = some cc from hcc]
          rfl
        have dep : A'.depth < recursionLimit := by
          have := hr.dp
          have c6' : A'.depth ≤ (A.deeper (envOfC "covers" (defScope s_covers) s.heap.objs.size f cdv)).depth + 1 := c6
          omega
        have sk : cenv.scope.kind = .function := by rw [c1]
        refine wpAny_Compare1 ?_
        refine wpAny_Call_Name_kw (Calls.Name_function_global sk (by show cenv.scope.names.lookup ("had" : Str) = _; rw [c1]; rfl) (Calls.loadGlobal_global (by rw [c3]; exact hG) D_had.g ?_))
        refine PySem.W.callWith_K (h₀ := base) I1.ok.mod.kin D_had.F.kp (Calls.spliced_cons (wpAny_Name (wpAny_loadName_free sk (by show cenv.scope.names.lookup ("content" : Str) = _; rw [c1]; rfl) hcl hcell2 ?_)))
        refine Calls.spliced_cons (wpAny_Name (wpAny_loadName_local sk (by show cenv.scope.names.lookup ("thing" : Str) = _; rw [c1]; rfl) hn hma (Calls.spliced_nil ⟨KX, ?_⟩)))
        refine wpAny_mono (had_quiet (i := i) M D_had KX hG (hB.keeps keepB) hbb (I1.ok.mod.nolimit.keeps keepB) dep hL2 rv hz) (fun y s₃ hy => ?_) fun _ _ z => z
        obtain ⟨⟨t', rfl⟩, h3, tk3, rfl, kk3⟩ := hy
        refine wpAny_Name (wpAny_loadName_local (m := m₂) sk (by show cenv.scope.names.lookup ("number" : Str) = _; rw [c1]; rfl) (hn.keeps kk3) hmb ?_)
        refine ge_int ⟨?_, h3, tk3, rfl, kk3⟩
        show Value.bool _ = Value.bool (decide (ws1.getD i 0 ≤ _))
        rw [show ws1.getD i 0 = n by rw [List.getD_eq_getElem?_getD, hnn]; rfl]
    · refine ⟨.ref b, rfl, b, _, _, rfl, hb, hT, ⟨a, cs, ws, rfl, ha, rfl, rfl⟩, fun H2 hT2 => ?_⟩
      rw [List.length_map]
      exact q H2 hT2
end
/-! ### rest -/
def restM (ws cs : List Int) : List Int := (List.range ws.length).map fun i => if ws.getD i 0 - hadM cs i > 0 then ws.getD i 0 - hadM cs i else 0
theorem restM_get {ws cs : List Int} {i : Nat} {n : Int} (h : ws[i]? = some n) : (restM ws cs)[i]? = some (if n - hadM cs i > 0 then n - hadM cs i else 0) := by
  have hi : i < ws.length := (List.getElem?_eq_some_iff.mp h).1
  unfold restM
  rw [List.getElem?_map, List.getElem?_range hi]
  show some (if ws.getD i 0 - hadM cs i > 0 then ws.getD i 0 - hadM cs i else 0) = _
  rw [show ws.getD i 0 = n by rw [List.getD_eq_getElem?_getD, h]; rfl]
theorem restM_len (ws cs : List Int) : (restM ws cs).length = ws.length := by
  unfold restM
  rw [List.length_map, List.length_range]
def sp_rest (K : PySem.W.Frag) : Sp := fun vs H Q _ => ∃ (a b : Addr) (ws cs : List Int), vs = [.ref a, .ref b] ∧ SqL K H a (ws.map V.int) ∧ SqL K H b (cs.map V.int) ∧ ws.length ≤ 1000 ∧ ∀ H' p, Same H H' → H p = none → H' p = some (LI (restM ws cs)) → Q (.ref p) H'
section
variable {P : Program} {w : World} {K : PySem.W.Frag} {mg : Str → Option Value} {base : Heap}
theorem ok_rest {f fh : Addr} {fd fdh : FuncData} {k : Nat} (M : Names mg) (D : Def K mg "rest" s_rest ["want", "content"] f fd) (D_had : Def K mg "had" s_had ["content", "thing"] fh fdh) : FnOk P w K mg base CX0 (k + 2) f fd ["want", "content"] (sp_rest K) := by
  have G_had : FnOk P w K mg base CX0 (k + 1) fh fdh ["content", "thing"] (sp_had K) := ok_had M D_had
  refine D.F.ok sc_rest (fun vs H Q E h => ?_) (fun cdv A outer s H vs Q E hr h => ?_)
  · obtain ⟨a, b, ws, cs, rfl, _⟩ := h
    rfl
  · obtain ⟨a, b, ws, cs, rfl, ha, hb, hl, q⟩ := h
    refine ⟨_, (pss_one (ps_ret (pe_lc (own := [("thing", 2), ("number", 3)]) (by rfl) sc_rest.nd (pi_enum (by rfl) M.enumerate (pa_cons (pv 0) pa_nil)) (blkOk_by (own := [("thing", 2), ("number", 3)]) (N := N_rest) (sc := defScope s_rest) (by decide +kernel)) (fun _ _ _ _ _ => (pg_tupK (K := K) (n := 2) rfl rfl (pgs_cons (pg_name (i := 2) sc_rest.nd rfl (Or.inl rfl)) (pgs_cons (pg_name (i := 3) sc_rest.nd rfl (Or.inl rfl)) pgs_nil)))) (fun _ _ _ _ _ => pts_nil) (fun _ _ _ _ _ => (pe_callB (call_max2 rfl) (by rfl) M.max (by decide +kernel) (pa_cons pe_int (pa_cons (pe_op op_sub (pv 3) (pe_call G_had hr (by rfl) D_had.g D_had.F.kp D_had.b .nil pass0 (pa_cons (pv 1) (pa_cons (pv 2) pa_nil)))) pa_nil))))))), ?_⟩
    refine ⟨_, rfl, a, _, rfl, ha, fun L nL => lc_it (walk_enum (xs := ws.map V.int)) (fun i H' => Same H H' ∧ H' L = some (LI ((restM ws cs).take i))) ⟨same_upd nL, upd_same⟩ (fun i H' _ hp => hp.1.seq ha) (fun i x H1 H2 hi hp hy => ?_) (fun H1 hp => ?_)⟩
    · obtain ⟨s1, hL⟩ := hp
      obtain ⟨T, x1, x2, rfl, nT, rfl, e1, e2⟩ := hy
      cases Option.some.inj e1
      obtain ⟨n, hn, rfl⟩ := of_get_ints e2
      have nLT : L ≠ T := ne_of_none hL nT
      have s2 : Same H (upd H1 T (.tup [.int (i : Nat), .int n])) := s1.trans (same_upd nT)
      rw [List.length_map] at hi
      refine ⟨T, _, rfl, SqT.of upd_same, rfl, _, _, rfl, _, _, rfl, rfl, rfl, _, rfl, _, rfl, _, rfl, b, cs, i, rfl, s2.seq hb, _, _, rfl, rfl, _, _, rfl, _, (by rw [upd_ne nLT]; exact hL), szL' (by rw [List.length_map, List.length_take]; omega), sm_new s2 nL, ?_⟩
      rw [take_succ_at (restM_get hn)]
      exact at_app
    · obtain ⟨s1, hL⟩ := hp
      rw [List.length_map, List.take_of_length_le (by rw [restM_len]; omega)] at hL
      exact q _ L s1 nL hL
end
/-! ### _law_pop -/
abbrev s_law_pop : Stmt := topS 7
abbrev N_law_pop : List Str := ["_law_draws_here"]
theorem sc_law_pop : FnScope N_law_pop ["_law_draws_here"] (defScope s_law_pop) := ⟨rfl, rfl, rfl, by decide +kernel, rfl, by decide +kernel, by decide +kernel⟩

def sp_pop : Sp := fun vs H Q _ => ∃ (a : Addr) (ns : List Int), vs = [.ref a] ∧ H a = some (LI ns) ∧ ∀ H', SameBut a H H' → H' a = some (LI ns.tail) → Q (.int (ns.headD 0)) H'
section
variable {P : Program} {w : World} {K : PySem.W.Frag} {mg : Str → Option Value} {base : Heap}
theorem ok_pop {f : Addr} {fd : FuncData} {k : Nat} (D : Def K mg "_law_pop" s_law_pop ["_law_draws_here"] f fd) : FnOk P w K mg base CX0 (k + 1) f fd ["_law_draws_here"] sp_pop := by
  refine D.F.ok sc_law_pop (fun vs H Q E h => ?_) (fun cdv A outer s H vs Q E hr h => ?_)
  · obtain ⟨a, ns, rfl, _⟩ := h
    rfl
  · obtain ⟨a, ns, rfl, ha, q⟩ := h
    refine ⟨_, (pss_cons (ps_if (pt_cmpR (op_eqD hr.units) (pv 0) (pe_lst pa_nil) (nomark _))
   (pss_one (ps_ret pe_int))
   pss_nil)
  (pss_one (ps_ret (pe_bm PySem.F.plainAttrs_list PySem.F.slot_list_pop PySem.F.type_list_pop mt_popAt (pv 0) (pa_cons pe_int pa_nil))))), ?_⟩
    refine ⟨.ref a, rfl, Nat.zero_le _, fun p np => ?_⟩
    have ne : a ≠ p := ne_of_none ha np
    have ha1 : upd H p (.lst []) a = some (LI ns) := by rw [upd_ne ne]; exact ha
    have s1 : SameBut a H (upd H p (.lst [])) := .of (same_upd np)
    refine ⟨_, _, dp_ints (SqL.of ha1), dp_ints (ns := []) (SqL.of upd_same), shaped_ints _, shaped_ints _, _, rfl, ite2 (fun e => ?_) (fun e => ?_)⟩
    · rw [eqv_ints] at e
      have e2 : ns = [] := of_decide_eq_true e
      subst e2
      exact q _ s1 ha1
    · rw [eqv_ints] at e
      cases ns with
      | nil => exact absurd (decide_eq_true rfl) e
      | cons n r =>
        refine ⟨.ref a, rfl, .inl ⟨rfl, _, SqL.of ha1⟩, a, _, 0, 0, .int n, rfl, rfl, ha1, by decide, by decide, ?_, rfl, ?_⟩
        · rw [List.length_map, List.length_cons]
          exact (ixN_seq (ixN_nat (Nat.succ_pos _))).1
        · exact q _ (s1.trans .upd) upd_same
end
/-! ### _law_cases -/
abbrev s_law_cases : Stmt := topS 9
abbrev N_law_cases : List Str := ["_law_want_here", "_law_found", "_law_number"]
theorem sc_law_cases : FnScope N_law_cases ["_law_want_here"] (defScope s_law_cases) := ⟨rfl, rfl, rfl, by decide +kernel, rfl, by decide +kernel, by decide +kernel⟩

def casesM (ws : List Int) : Int := ws.foldl (fun p w => p * (w + 1)) 1
theorem casesM_take {ws : List Int} {i : Nat} {x : Int} (h : ws[i]? = some x) : casesM (ws.take (i + 1)) = casesM (ws.take i) * (x + 1) := by
  unfold casesM
  rw [take_succ_at h, List.foldl_append]
  rfl
def sp_cases (K : PySem.W.Frag) : Sp := fun vs H Q _ => ∃ (a : Addr) (ws : List Int), vs = [.ref a] ∧ SqL K H a (ws.map V.int) ∧ (∀ w ∈ ws, -1000000 ≤ w ∧ w ≤ 1000000) ∧ Q (.int (casesM ws)) H
section
variable {P : Program} {w : World} {K : PySem.W.Frag} {mg : Str → Option Value} {base : Heap}
theorem ok_cases {f : Addr} {fd : FuncData} {k : Nat} (D : Def K mg "_law_cases" s_law_cases ["_law_want_here"] f fd) : FnOk P w K mg base CX0 (k + 1) f fd ["_law_want_here"] (sp_cases K) := by
  refine D.F.ok sc_law_cases (fun vs H Q E h => ?_) (fun cdv A outer s H vs Q E hr h => ?_)
  · obtain ⟨a, ns, rfl, _⟩ := h
    rfl
  · obtain ⟨a, ws, rfl, ha, hw, q⟩ := h
    refine ⟨_, (pss_cons (ps_set (i := 1) sc_law_cases.nd rfl (Or.inl rfl) pe_int)
  (pss_cons (ps_for PassesOwn.never rfl (pi_list (pv 0)) (pg_name (i := 2) sc_law_cases.nd rfl (Or.inl rfl))
   (pss_one (ps_set (i := 1) sc_law_cases.nd rfl (Or.inl rfl) (pe_op op_mul (pv 1) (pe_op op_add (pv 2) pe_int)))))
  (pss_one (ps_ret (pv 1))))), ?_⟩
    refine ⟨.ref a, rfl, a, rfl, ⟨_, ha⟩, for_list (xs := ws.map V.int) (fun i σ H' => ∃ y, σ = [some (.ref a), some (.int (casesM (ws.take i))), y] ∧ H' = H) ⟨none, rfl, rfl⟩ (fun i σ H' _ hp => ?_) (fun i x σ H' hx hp => ?_) (fun σ H' hp => ?_)⟩
    · obtain ⟨y, _, rfl⟩ := hp
      exact ha
    · obtain ⟨y, rfl, rfl⟩ := hp
      obtain ⟨n, hn, rfl⟩ := of_get_ints hx
      have b := hw n (List.mem_of_getElem? hn)
      refine ⟨_, rfl, _, rfl, _, _, rfl, rfl, _, _, rfl, rfl, .inr ⟨by omega, by omega⟩, some (.int n), ?_, rfl⟩
      rw [casesM_take hn]
      rfl
    · obtain ⟨y, rfl, rfl⟩ := hp
      refine ⟨_, rfl, ?_⟩
      rw [List.length_map, List.take_length]
      exact q
end
/-! ### _law_draws -/
abbrev s_law_draws : Stmt := topS 6
abbrev N_law_draws : List Str := ["_law_script", "_law_turn", "_law_many", "_law_cells", "_law_found", "_law_k", "_law_left", "_law_place", "_law_number", "_law_at", "_law_cell"]
theorem sc_law_draws : FnScope N_law_draws ["_law_script", "_law_turn", "_law_many"] (defScope s_law_draws) := ⟨rfl, rfl, rfl, by decide +kernel, rfl, by decide +kernel, by decide +kernel⟩

theorem cut_to (ns : List Int) (k : Nat) : cutV (ns.map V.int) none (some (k : Int)) = (ns.take k).map V.int := by
  unfold cutV
  rw [HT.sIx_nat, HT.sIx_none, List.drop_zero, Nat.sub_zero, List.map_take]
  exact (List.take_eq_take_iff).mpr (by omega)
def sp_draws (K : PySem.W.Frag) : Sp := fun vs H Q _ => ∃ (a : Addr) (ns : List Int) (t m : Nat), vs = [.ref a, .int t, .int m] ∧ SqL K H a (ns.map V.int) ∧ ns.length ≤ 1000 ∧ t ≤ 1000 ∧ m ≤ 1000 ∧
  ∀ H' p ds, Same H H' → H p = none → H' p = some (LI ds) → Q (.ref p) H'
section
variable {P : Program} {w : World} {K : PySem.W.Frag} {mg : Str → Option Value} {base : Heap}
theorem ok_draws {f : Addr} {fd : FuncData} {k : Nat} (M : Names mg) (D : Def K mg "_law_draws" s_law_draws ["_law_script", "_law_turn", "_law_many"] f fd) :
    FnOk P w K mg base CX0 (k + 1) f fd ["_law_script", "_law_turn", "_law_many"] (sp_draws K) := by
  refine D.F.ok sc_law_draws (fun vs H Q E h => ?_) (fun cdv A outer s H vs Q E hr h => ?_)
  · obtain ⟨a, ns, t, m, rfl, _⟩ := h
    rfl
  · obtain ⟨a, ns, t, m, rfl, hS, hl, ht, hm, q⟩ := h
    refine ⟨_, (pss_cons (ps_set (i := 3) sc_law_draws.nd rfl (Or.inl rfl) (pe_op op_cat (pe_slice sl_list (pv 0) po_none (po_some pe_int)) (pe_lst (pa_cons (pv 1) pa_nil))))
  (pss_cons (ps_set (i := 4) sc_law_draws.nd rfl (Or.inl rfl) (pe_lst pa_nil))
  (pss_cons (ps_if (pt_cmpR op_eq (pe_op op_mod (pe_op op_fdiv (pe_ix ix_list (pv 3) pe_int (fun _ _ => rfl)) pe_int) pe_int) pe_int (nomark _))
   (pss_cons (ps_setLc (i := 6) (own := [("_law_cell", 10)]) (by rfl) sc_law_draws.nd rfl rfl (sw_true rfl rfl rfl (by decide +kernel)) (pi_list (pv 3)) (blkOk_by (own := [("_law_cell", 10)]) (N := N_law_draws) (sc := defScope s_law_draws) (by decide +kernel)) (fun _ _ _ _ _ => (pg_name (i := 10) sc_law_draws.nd rfl (Or.inl rfl))) (fun _ _ _ _ _ => pts_nil) (fun _ _ _ _ _ => (pe_op op_fdiv (pv 10) pe_int)))
  (pss_cons (ps_for PassesOwn.never rfl (pi_range1 (by rfl) M.range (pa_cons (pe_op op_add (pv 1) (pv 2)) pa_nil)) (pg_name (i := 5) sc_law_draws.nd rfl (Or.inl rfl))
   (pss_cons (ps_set (i := 9) sc_law_draws.nd rfl (Or.inl rfl) (pe_op op_mod (pv 5) (pe_callB call_len_seq (by rfl) M.len (by decide +kernel) (pa_cons (pv 6) pa_nil))))
  (pss_cons (ps_if (pt_cmpR op_ge (pv 5) (pv 1) (nomark _))
   (pss_one (ps_expr (pe_bm PySem.F.plainAttrs_list PySem.F.slot_list_append PySem.F.type_list_append mt_append (pv 4) (pa_cons (pe_op op_mod (pe_ix ix_list (pv 6) (pv 9) (fun _ _ => rfl)) pe_int) pa_nil))))
   pss_nil)
  (pss_one (ps_asg (pe_op op_fdivW (pe_ix ix_list (pv 6) (pv 9) (fun _ _ => rfl)) pe_int) (pg_sub (pv 6) (pv 9) set_list))))))
  (pss_one (ps_ret (pv 4)))))
   pss_nil)
  (pss_cons (ps_for PassesOwn.never rfl (pi_range1 (by rfl) M.range (pa_cons (pv 2) pa_nil)) (pg_name (i := 5) sc_law_draws.nd rfl (Or.inl rfl))
   (pss_cons (ps_set (i := 7) sc_law_draws.nd rfl (Or.inl rfl) (pe_op op_add (pe_op op_mul (pe_op op_mul (pe_op op_add (pv 5) (pv 1)) (pe_op op_add (pv 5) (pv 1))) pe_int) pe_int))
  (pss_cons (ps_set (i := 8) sc_law_draws.nd rfl (Or.inl rfl) (pe_op op_mod (pe_op op_mul (pe_op op_add (pe_op op_mod (pe_ix ix_list (pv 3) (pe_op op_mod (pv 5) (pe_callB call_len_seq (by rfl) M.len (by decide +kernel) (pa_cons (pv 3) pa_nil))) (fun _ _ => rfl)) pe_int) (pv 7)) pe_int) pe_int))
  (pss_cons (ps_set (i := 8) sc_law_draws.nd rfl (Or.inl rfl) (pe_op op_mod (pe_op op_add (pe_op op_mul (pv 8) (pv 8)) (pe_op op_mul pe_int (pv 5))) pe_int))
  (pss_one (ps_expr (pe_bm PySem.F.plainAttrs_list PySem.F.slot_list_append PySem.F.type_list_append mt_append (pv 4) (pa_cons (pe_op op_mod (pe_op op_mul (pv 8) (pv 8)) pe_int) pa_nil))))))))
  (pss_one (ps_ret (pv 4))))))), ?_⟩
    refine ⟨.ref a, rfl, 63, rfl, a, ns.map V.int, rfl, hS, fun c nc => ?_⟩
    refine ⟨.int t, rfl, by show 1 ≤ sizeLine; decide, fun u nu => ?_⟩
    have hcu : c ≠ u := ne_of_none upd_same nu
    have hc : (upd (upd H c (.lst (cutV (ns.map V.int) none (some 63)))) u (.lst [.int (t : Int)])) c = some (.lst (cutV (ns.map V.int) none (some 63))) := by
      rw [upd_ne hcu]
      exact upd_same
    have hlen := cutV_length (ns.map V.int) none (some 63)
    rw [List.length_map] at hlen
    refine ⟨c, u, _, _, rfl, rfl, hc, upd_same, szL (by rw [show ([V.int (t : Int)] : List V).length = 1 from rfl]; omega), fun e ne => ?_⟩
    obtain ⟨cs, ecs, hcs1, hcs2⟩ : ∃ cs : List Int, cutV (ns.map V.int) none (some 63) ++ [V.int (t : Int)] = cs.map V.int ∧ 0 < cs.length ∧ cs.length ≤ 2000 := by
      refine ⟨ns.take 63 ++ [(t : Int)], ?_, ?_, ?_⟩
      · rw [show (63 : Int) = ((63 : Nat) : Int) from rfl, cut_to, List.map_append]
        rfl
      · rw [List.length_append]
        exact Nat.succ_pos _
      · rw [List.length_append, List.length_take, List.length_singleton]
        omega
    have s1 : Same H (upd (upd (upd H c (.lst (cutV (ns.map V.int) none (some 63)))) u (.lst [.int (t : Int)])) e (.lst (cutV (ns.map V.int) none (some 63) ++ [.int (t : Int)]))) :=
      ((same_upd nc).trans (same_upd nu)).trans (same_upd ne)
    have he1 : (upd (upd (upd H c (.lst (cutV (ns.map V.int) none (some 63)))) u (.lst [.int (t : Int)])) e (.lst (cutV (ns.map V.int) none (some 63) ++ [.int (t : Int)]))) e = some (LI cs) := by
      rw [upd_same, ecs]
    generalize (upd (upd (upd H c (.lst (cutV (ns.map V.int) none (some 63)))) u (.lst [.int (t : Int)])) e (.lst (cutV (ns.map V.int) none (some 63) ++ [.int (t : Int)]))) = H1 at s1 he1 ⊢
    -- found = []
    refine ⟨Nat.zero_le _, fun o no => ?_⟩
    have hoe : e ≠ o := ne_of_none he1 no
    have s2 : Same H (upd H1 o (.lst [])) := s1.trans (same_upd no)
    have noH : H o = none := s1.free no
    have he2 : (upd H1 o (.lst [])) e = some (LI cs) := by rw [upd_ne hoe]; exact he1
    have ho2 : (upd H1 o (.lst [])) o = some (LI []) := upd_same
    generalize (upd H1 o (.lst [])) = H2 at s2 he2 ho2 ⊢
    -- cells[0] // 50000 % 2 == 1
    refine ⟨.ref e, rfl, e, _, 0, .int cs[0], rfl, rfl, SqL.of he2, atI_nat (j := 0) (getD_ints hcs1), _, _, rfl, rfl, ⟨by decide, by decide⟩, _, _, rfl, rfl, (by show (0 : Int) < _; decide), rfl, _, rfl, ite2 (fun _ => ?_) (fun _ => ?_)⟩
    · -- left = [cell // 100000 for cell in cells]
      refine ⟨.ref e, rfl, e, rfl, ⟨_, SqL.of he2⟩, fun B nB => lc_list (xs := cs.map V.int) (fun i H' => Same H2 H' ∧ ∃ ls : List Int, H' B = some (LI ls) ∧ ls.length = i) ⟨same_upd nB, [], upd_same, rfl⟩ (fun i H' _ hp => SqL.of (hp.1 _ _ he2)) (fun i x H' hx hp => ?_) (fun H3 hp => ?_)⟩
      · obtain ⟨s3, ls, hB, hls⟩ := hp
        obtain ⟨n, hn, rfl⟩ := of_get_ints hx
        have hi : i < cs.length := (List.getElem?_eq_some_iff.mp hn).1
        refine ⟨rfl, _, rfl, _, _, rfl, rfl, ⟨by decide, by decide⟩, _, hB, szL' (by rw [List.length_map]; omega), sm_new s3 nB, ls ++ [n / 100000], ?_, by rw [List.length_append, hls]; rfl⟩
        exact at_app
      · obtain ⟨s3, ls, hB, hls⟩ := hp
        rw [List.length_map] at hls
        have s3' := s2.trans s3
        have ho3 := s3 _ _ ho2
        have noB : o ≠ B := ne_of_none ho2 nB
        have nBH : H B = none := s2.free nB
        -- for k in range(turn + many)
        refine ⟨_, rfl, _, rfl, _, _, rfl, rfl, _, rfl, by omega, by omega, for_range (n := ((t : Int) + (m : Int)).toNat) (fun i σ H' => ∃ y5 y9, σ = [some (.ref a), some (.int t), some (.int m), some (.ref e), some (.ref o), y5, some (.ref B), none, none, y9, none] ∧ Same H H' ∧
          (∃ ds : List Int, H' o = some (LI ds) ∧ ds.length ≤ i) ∧ ∃ ls : List Int, H' B = some (LI ls) ∧ ls.length = cs.length) ⟨none, none, rfl, s3', ⟨[], ho3, Nat.zero_le _⟩, ls, hB, hls⟩ (fun i σ H4 hi hp => ?_) (fun σ H4 hp => ?_)⟩
        · obtain ⟨y5, y9, rfl, s4, ⟨ds, ho4, hds⟩, ls, hB4, hls⟩ := hp
          obtain ⟨j, hj, ej⟩ := mod_at (i := (0 : Int) + (i : Nat)) (n := (ls.map V.int).length) (by rw [List.length_map]; omega)
          rw [List.length_map] at hj
          refine ⟨_, rfl, _, rfl, B, _, rfl, .inl (SqL.of hB4), _, _, rfl, rfl, by rw [List.length_map]; omega, ?_⟩
          refine ⟨_, rfl, _, rfl, _, _, rfl, rfl, _, rfl, ite2 (fun _ => ?_) (fun _ => ?_)⟩
          · refine ⟨_, rfl, .inl ⟨rfl, _, SqL.of ho4⟩, _, rfl, _, rfl, B, _, _, _, rfl, rfl, SqL.of hB4, at_of ej (getD_ints hj), _, _, rfl, rfl, (by show (0 : Int) < _; decide), o, _, _, rfl, rfl, ho4, szL' (by rw [List.length_map]; omega), ?_⟩
            have hB5 : upd H4 o (.lst (ds.map V.int ++ [V.int (ls[j] % 2147483587)])) B = some (LI ls) := by rw [upd_ne noB.symm]; exact hB4
            refine ⟨_, rfl, _, rfl, B, _, _, _, rfl, rfl, SqL.of hB5, at_of ej (getD_ints hj), _, _, rfl, rfl, wide_div (b := 32) (by decide) (by decide) (by decide) (by decide), _, rfl, _, rfl, B, _, _, j, rfl, rfl, hB5, by rw [ej, List.length_map]; exact ixN_nat hj, ?_⟩
            refine ⟨_, _, rfl, sm_new (sm_new s4 noH) nBH, ⟨ds ++ [ls[j] % 2147483587], ?_, by rw [List.length_append, List.length_singleton]; omega⟩, ls.set j (ls[j] / 2147483587), ?_, by rw [List.length_set]; exact hls⟩
            · rw [upd_ne noB]
              exact at_app
            · exact at_set
          · refine ⟨_, rfl, _, rfl, B, _, _, _, rfl, rfl, SqL.of hB4, at_of ej (getD_ints hj), _, _, rfl, rfl, wide_div (b := 32) (by decide) (by decide) (by decide) (by decide), _, rfl, _, rfl, B, _, _, j, rfl, rfl, hB4, by rw [ej, List.length_map]; exact ixN_nat hj, ?_⟩
            refine ⟨_, _, rfl, sm_new s4 nBH, ⟨ds, ?_, by omega⟩, ls.set j (ls[j] / 2147483587), ?_, by rw [List.length_set]; exact hls⟩
            · rw [upd_ne noB]
              exact ho4
            · exact at_set
        · obtain ⟨y5, y9, rfl, s4, ⟨ds, ho4, hds⟩, _⟩ := hp
          exact ⟨_, rfl, q H4 o ds s4 noH ho4⟩
    · -- for k in range(many)
      refine ⟨_, rfl, _, rfl, by omega, by omega, for_range (n := (m : Int).toNat) (fun i σ H' => ∃ y5 y7 y8, σ = [some (.ref a), some (.int t), some (.int m), some (.ref e), some (.ref o), y5, none, y7, y8, none, none] ∧ Same H H' ∧ H' e = some (LI cs) ∧
        (∃ ds : List Int, H' o = some (LI ds) ∧ ds.length ≤ i)) ⟨none, none, none, rfl, s2, he2, [], ho2, Nat.zero_le _⟩ (fun i σ H4 hi hp => ?_) (fun σ H4 hp => ?_)⟩
      · obtain ⟨y5, y7, y8, rfl, s4, he4, ds, ho4, hds⟩ := hp
        have hi2 : i < m := by omega
        obtain ⟨j, hj, ej⟩ := mod_at (i := (0 : Int) + (i : Nat)) (n := (cs.map V.int).length) (by rw [List.length_map]; omega)
        rw [List.length_map] at hj
        -- place
        refine ⟨_, rfl, _, rfl, _, _, rfl, rfl, _, rfl, _, rfl, _, _, rfl, rfl, _, _, rfl, rfl, .inl ⟨by omega, by omega⟩, _, _, rfl, rfl, .inr ⟨by decide, by decide⟩, _, _, rfl, rfl, ?_⟩
        -- number
        refine ⟨_, rfl, _, rfl, _, rfl, e, _, rfl, .inl (SqL.of he4), _, _, rfl, rfl, by rw [List.length_map]; omega, e, _, _, _, rfl, rfl, SqL.of he4, at_of ej (getD_ints hj), _, _, rfl, rfl, (by show (0 : Int) < _; decide), _, rfl, _, _, rfl, rfl, _, _, rfl, rfl, .inr ⟨by decide, by decide⟩, _, _, rfl, rfl, (by show (0 : Int) < _; decide), ?_⟩
        have mb : ∀ z : Int, -(2 ^ 64) < z % 2147483647 ∧ z % 2147483647 < 2 ^ 64 := fun z => by omega
        have mb2 : ∀ z : Int, -(2 ^ 64) < z % 2147483629 ∧ z % 2147483629 < 2 ^ 64 := fun z => by omega
        refine ⟨_, rfl, _, rfl, _, _, rfl, rfl, .inl (mb _), _, rfl, _, _, rfl, rfl, .inl ⟨by decide, by decide⟩, _, _, rfl, rfl, _, _, rfl, rfl, (by show (0 : Int) < _; decide), ?_⟩
        refine ⟨_, rfl, .inl ⟨rfl, _, SqL.of ho4⟩, _, rfl, _, rfl, _, _, rfl, rfl, .inl (mb2 _), _, _, rfl, rfl, (by show (0 : Int) < _; decide), o, _, _, rfl, rfl, ho4, szL' (by rw [List.length_map]; omega), ?_⟩
        refine ⟨_, _, _, rfl, sm_new s4 noH, ?_, _, at_app, by rw [List.length_append, List.length_singleton]; omega⟩
        rw [upd_ne hoe]
        exact he4
      · obtain ⟨y5, y7, y8, rfl, s4, _, ds, ho4, hds⟩ := hp
        exact ⟨_, rfl, q H4 o ds s4 noH ho4⟩
end
/-! ### _law_want -/
abbrev s_law_want : Stmt := topS 8
abbrev N_law_want : List Str := ["_law_draws_here", "_law_many", "_law_number", "_law_found", "_law_k"]
theorem sc_law_want : FnScope N_law_want ["_law_draws_here", "_law_many"] (defScope s_law_want) := ⟨rfl, rfl, rfl, by decide +kernel, rfl, by decide +kernel, by decide +kernel⟩

theorem menu8 {j : Nat} (h : j < 8) : ∃ v : Int, ([V.int 0, V.int 1, V.int 2, V.int 9, V.int 4, V.int 5, V.int 3, V.int 1] : List V)[j]? = some (.int v) ∧ 0 ≤ v ∧ v ≤ 9 :=
  match j, h with
  | 0, _ => ⟨0, rfl, by decide, by decide⟩
  | 1, _ => ⟨1, rfl, by decide, by decide⟩
  | 2, _ => ⟨2, rfl, by decide, by decide⟩
  | 3, _ => ⟨9, rfl, by decide, by decide⟩
  | 4, _ => ⟨4, rfl, by decide, by decide⟩
  | 5, _ => ⟨5, rfl, by decide, by decide⟩
  | 6, _ => ⟨3, rfl, by decide, by decide⟩
  | 7, _ => ⟨1, rfl, by decide, by decide⟩
theorem shl_ok {i : Nat} (h : i < 4) : (0 : Int) < 1 * 2 ^ (3 * (0 + (i : Int))).toNat ∧ (1 : Int) * 2 ^ (3 * (0 + (i : Int))).toNat < 1073741824 :=
  match i, h with
  | 0, _ => by decide
  | 1, _ => by decide
  | 2, _ => by decide
  | 3, _ => by decide
theorem first_at : ∀ {l : List Int} {x : Int}, x ∈ l → ∃ j : Nat, l[j]? = some x ∧ ∀ (m : Nat) y, m < j → l[m]? = some y → y ≠ x
  | a :: r, x, h => by
    by_cases e : a = x
    · subst e
      exact ⟨0, rfl, fun m y hm => absurd hm (Nat.not_lt_zero _)⟩
    · obtain ⟨j, h1, h2⟩ := first_at (l := r) ((List.mem_cons.mp h).resolve_left fun z => e z.symm)
      refine ⟨j + 1, h1, fun m y hm hy => ?_⟩
      cases m with
      | zero =>
        have : a = y := Option.some.inj hy
        rw [← this]
        exact e
      | succ m => exact h2 m y (by omega) hy
theorem casesM_zero : ∀ (ws : List Int) (p : Int), (∀ w ∈ ws, w = 0) → ws.foldl (fun p w => p * (w + 1)) p = p
  | [], _, _ => rfl
  | a :: r, p, h => by
    have e : a = 0 := h a List.mem_cons_self
    subst e
    show r.foldl (fun p w => p * (w + 1)) (p * (0 + 1)) = p
    rw [casesM_zero r _ fun w hw => h w (List.mem_cons_of_mem _ hw)]
    omega
theorem sum_nonneg : ∀ {ws : List Int}, (∀ w ∈ ws, 0 ≤ w) → 0 ≤ ws.sum
  | [], _ => by decide
  | a :: r, h => by
    have h1 := h a List.mem_cons_self
    have h2 := sum_nonneg (ws := r) fun w hw => h w (List.mem_cons_of_mem _ hw)
    rw [List.sum_cons]
    omega
theorem sum_get : ∀ {ws : List Int} {j : Nat} {x : Int}, (∀ w ∈ ws, 0 ≤ w) → ws[j]? = some x → x ≤ ws.sum
  | [], j, x, _, h => by simp at h
  | a :: r, 0, x, hh, h => by
    have e : a = x := Option.some.inj h
    have := sum_nonneg (ws := r) fun w hw => hh w (List.mem_cons_of_mem _ hw)
    rw [List.sum_cons]
    omega
  | a :: r, j + 1, x, hh, h => by
    have h1 := hh a List.mem_cons_self
    have h2 := sum_get (ws := r) (j := j) (x := x) (fun w hw => hh w (List.mem_cons_of_mem _ hw)) h
    rw [List.sum_cons]
    omega
def Small (ws : List Int) : Prop := ∀ w ∈ ws, 0 ≤ w ∧ w ≤ 9
theorem Small.app {ws : List Int} {n : Int} (h : Small ws) (h1 : 0 ≤ n) (h2 : n ≤ 9) : Small (ws ++ [n]) := fun w hw => by
  rcases List.mem_append.mp hw with z | z
  · exact h w z
  · rw [List.mem_singleton.mp z]
    exact ⟨h1, h2⟩
theorem Small.big {ws : List Int} (h : Small ws) : ∀ w ∈ ws, -1000000 ≤ w ∧ w ≤ 1000000 := fun w hw => by
  have := h w hw
  omega
def sp_want : Sp := fun vs H Q _ => ∃ (a : Addr) (ns : List Int) (m : Nat), vs = [.ref a, .int m] ∧ H a = some (LI ns) ∧ 1 ≤ m ∧ m ≤ 4 ∧
  ∀ H' p ws ns', SameBut a H H' → H p = none → p ≠ a → H' p = some (LI ws) → H' a = some (LI ns') → ws.length = m → Small ws → casesM ws ≤ 400 → Q (.ref p) H'
section
variable {P : Program} {w : World} {K : PySem.W.Frag} {mg : Str → Option Value} {base : Heap}
theorem ok_want {f fp fc : Addr} {fd fdp fdc : FuncData} {k : Nat} (M : Names mg) (D : Def K mg "_law_want" s_law_want ["_law_draws_here", "_law_many"] f fd) (D_law_pop : Def K mg "_law_pop" s_law_pop ["_law_draws_here"] fp fdp) (D_law_cases : Def K mg "_law_cases" s_law_cases ["_law_want_here"] fc fdc) :
    FnOk P w K mg base CX0 (k + 2) f fd ["_law_draws_here", "_law_many"] sp_want := by
  have G_law_pop : FnOk P w K mg base CX0 (k + 1) fp fdp ["_law_draws_here"] sp_pop := ok_pop D_law_pop
  have G_law_cases : FnOk P w K mg base CX0 (k + 1) fc fdc ["_law_want_here"] (sp_cases K) := ok_cases D_law_cases
  refine D.F.ok sc_law_want (fun vs H Q E h => ?_) (fun cdv A outer s H vs Q E hr h => ?_)
  · obtain ⟨a, ns, m, rfl, _⟩ := h
    rfl
  · obtain ⟨a, ns, m, rfl, ha, hm1, hm4, q⟩ := h
    refine ⟨_, (pss_cons (ps_set (i := 2) sc_law_want.nd rfl (Or.inr rfl) (pe_call G_law_pop hr (by rfl) D_law_pop.g D_law_pop.F.kp D_law_pop.b .nil pass0 (pa_cons (pv 0) pa_nil)))
  (pss_cons (ps_setLc (i := 3) (own := [("_law_k", 4)]) (by rfl) sc_law_want.nd rfl rfl (sw_true rfl rfl rfl (by decide +kernel)) (pi_range1 (by rfl) M.range (pa_cons (pv 1) pa_nil)) (blkOk_by (own := [("_law_k", 4)]) (N := N_law_want) (sc := defScope s_law_want) (by decide +kernel)) (fun _ _ _ _ _ => (pg_name (i := 4) sc_law_want.nd rfl (Or.inl rfl))) (fun _ _ _ _ _ => pts_nil) (fun _ _ _ _ _ => (pe_ix (ix_listK (K := K) rfl) (pe_lst (pa_cons pe_int (pa_cons pe_int (pa_cons pe_int (pa_cons pe_int (pa_cons pe_int (pa_cons pe_int (pa_cons pe_int (pa_cons pe_int pa_nil))))))))) (pe_op op_mod (pe_op op_fdiv (pv 2) (pe_op op_shl pe_int (pe_op op_mul pe_int (pv 4)))) pe_int) (fun _ _ => rfl))))
  (pss_cons (ps_if (pt_cmpR op_eq (pe_op op_mod (pe_op op_fdiv (pv 2) pe_int) pe_int) pe_int (nomark _))
   (pss_one (ps_setLc (i := 3) (own := [("_law_k", 4)]) (by rfl) sc_law_want.nd rfl rfl (sw_true rfl rfl rfl (by decide +kernel)) (pi_range1 (by rfl) M.range (pa_cons (pv 1) pa_nil)) (blkOk_by (own := [("_law_k", 4)]) (N := N_law_want) (sc := defScope s_law_want) (by decide +kernel)) (fun _ _ _ _ _ => (pg_name (i := 4) sc_law_want.nd rfl (Or.inl rfl))) (fun _ _ _ _ _ => pts_nil) (fun _ _ _ _ _ => (pe_op op_mod (pe_call G_law_pop hr (by rfl) D_law_pop.g D_law_pop.F.kp D_law_pop.b .nil pass0 (pa_cons (pv 0) pa_nil)) pe_int))))
   pss_nil)
  (pss_cons (ps_while PassesOwn.never (pt_cmpR op_gt (pe_call G_law_cases hr (by rfl) D_law_cases.g D_law_cases.F.kp D_law_cases.b .nil pass0 (pa_cons (pv 3) pa_nil)) pe_int (nomark _))
   (pss_one (ps_asg (pe_op op_sub (pe_callB (cr_max rfl) (by rfl) M.max (by decide +kernel) (pa_cons (pv 3) pa_nil)) pe_int) (pg_sub (pv 3) (pe_bm PySem.F.plainAttrs_list PySem.F.slot_list_index PySem.F.type_list_index mt_index (pv 3) (pa_cons (pe_callB (cr_max rfl) (by rfl) M.max (by decide +kernel) (pa_cons (pv 3) pa_nil)) pa_nil)) set_list))))
  (pss_one (ps_ret (pv 3))))))), ?_⟩
    -- number = pop(draws)
    refine ⟨.ref a, rfl, a, ns, rfl, ha, fun H1 s1 h1 => ?_⟩
    generalize ns.headD 0 = n0
    generalize ns.tail = ns1 at h1
    -- the menu
    refine ⟨_, rfl, _, rfl, by omega, by omega, fun B nB => lc_range (lo := 0) (n := (m : Int).toNat) (fun i H' => SameBut a H H' ∧ H' a = some (LI ns1) ∧ ∃ ws, H' B = some (LI ws) ∧ ws.length = i ∧ Small ws) ?_ (fun i H' hi hp => ?_) (fun H2 hp => ?_)⟩
    · have nBa : a ≠ B := ne_of_none h1 nB
      refine ⟨?_, ?_, [], upd_same, rfl, fun w hw => nomatch hw⟩
      · exact s1.new (s1.free nB (by rw [h1]; exact fun z => nomatch z))
      · rw [upd_ne nBa]
        exact h1
    · have nBa : a ≠ B := ne_of_none h1 nB
      have nBH : H B = none := s1.free nB (by rw [h1]; exact fun z => nomatch z)
      obtain ⟨s2, h2, ws, hB, hl, sm⟩ := hp
      have hi4 : i < 4 := by omega
      refine ⟨rfl, by show 8 ≤ sizeLine; decide, fun p np => ?_⟩
      have npB : B ≠ p := ne_of_none hB np
      have npa : a ≠ p := ne_of_none h2 np
      obtain ⟨j, hj, ej⟩ := mod_at (i := n0 / (1 * 2 ^ (3 * (0 + (i : Int))).toNat)) (n := 8) (by decide)
      obtain ⟨v, hv, hv1, hv2⟩ := menu8 hj
      refine ⟨_, rfl, _, rfl, _, _, rfl, rfl, .inl ⟨by decide, by decide⟩, _, _, rfl, rfl, ⟨by omega, by omega, by decide⟩, _, _, rfl, rfl, shl_ok hi4, _, _, rfl, rfl, (by show (0 : Int) < _; decide), p, _, _, _, rfl, rfl, SqL.of upd_same, at_of ej hv, ?_⟩
      have hB2 : (upd H' p (.lst [V.int 0, V.int 1, V.int 2, V.int 9, V.int 4, V.int 5, V.int 3, V.int 1])) B = some (LI ws) := by rw [upd_ne npB]; exact hB
      refine ⟨_, hB2, szL' (by rw [List.length_map]; omega), ?_, ?_, _, at_app, by rw [List.length_append, hl]; rfl, sm.app hv1 hv2⟩
      · exact (s2.new (s2.free np (by rw [h2]; exact fun z => nomatch z))).new nBH
      · rw [upd_ne nBa, upd_ne npa]
        exact h2
    · have nBa : a ≠ B := ne_of_none h1 nB
      have nBH : H B = none := s1.free nB (by rw [h1]; exact fun z => nomatch z)
      obtain ⟨s2, h2, ws, hB, hl, sm⟩ := hp
      -- the end: while and return, from any found list
      have fin : ∀ (L : Addr) (σ : L2.St) (H3 : Hp), σ = [some (.ref a), some (.int m), some (.int n0), some (.ref L), none] → H L = none → a ≠ L → SameBut a H H3 → (∃ ns3, H3 a = some (LI ns3)) → (∃ ws, H3 L = some (LI ws) ∧ ws.length = m ∧ Small ws) →
          ∃ W : Nat → L2.St → Hp → Prop, (∃ μ, W μ σ H3) ∧ ∀ μ σ H4, W μ σ H4 → ∃ ws, W μ σ H4 ∧ σ = [some (.ref a), some (.int m), some (.int n0), some (.ref L), none] ∧ SameBut a H H4 ∧ (∃ ns3, H4 a = some (LI ns3)) ∧ H4 L = some (LI ws) ∧ ws.length = m ∧ Small ws ∧ μ = ws.sum.toNat ∧
            ∀ ws' : List Int, ws'.length = m → Small ws' → ws'.sum < ws.sum → ∃ μ', μ' < μ ∧ W μ' σ (upd H4 L (LI ws')) := by
        intro L σ H3 eσ nL naL s3 h3 h4
        refine ⟨fun μ σ H4 => ∃ ws, σ = [some (.ref a), some (.int m), some (.int n0), some (.ref L), none] ∧ SameBut a H H4 ∧ (∃ ns3, H4 a = some (LI ns3)) ∧ H4 L = some (LI ws) ∧ ws.length = m ∧ Small ws ∧ μ = ws.sum.toNat, ?_, ?_⟩
        · obtain ⟨ws, e1, e2, e3⟩ := h4
          exact ⟨_, ws, eσ, s3, h3, e1, e2, e3, rfl⟩
        · intro μ σ H4 hW
          obtain ⟨ws, e1, e2, ⟨ns3, e3⟩, e4, e5, e6, e7⟩ := id hW
          refine ⟨ws, hW, e1, e2, ⟨ns3, e3⟩, e4, e5, e6, e7, fun ws' l1 l2 l3 => ⟨_, ?_, ws', e1, e2.new nL, ⟨ns3, ?_⟩, upd_same, l1, l2, rfl⟩⟩
          · have p1 : 0 ≤ ws'.sum := sum_nonneg fun w hw => (l2 w hw).1
            omega
          · rw [upd_ne naL]
            exact e3
      have body : ∀ (L : Addr) (H4 : Hp) (ws : List Int), H L = none → a ≠ L → SameBut a H H4 → (∃ ns3, H4 a = some (LI ns3)) → H4 L = some (LI ws) → ws.length = m → Small ws → casesM ws > 400 →
          ∀ mx : Int, mx ∈ ws → (∀ y, y ∈ ws → y ≤ mx) → ∃ j : Nat, ws[j]? = some mx ∧ (∀ (m' : Nat) (z' : V), m' < j → (ws.map V.int)[m']? = some z' → eqV z' (.int mx) = false) ∧ j < ws.length ∧ (ws.set j (mx - 1)).length = m ∧ Small (ws.set j (mx - 1)) ∧ (ws.set j (mx - 1)).sum < ws.sum := by
        intro L H4 ws nL naL s4 h3 h4 hl sm hc mx hmx hle
        obtain ⟨j, h1, h2⟩ := first_at hmx
        have pos : 1 ≤ mx := by
          rcases Int.lt_or_le mx 1 with z | z
          · have e : casesM ws = 1 := casesM_zero ws 1 fun w hw => by
              have a1 := hle w hw
              have a2 := sm w hw
              omega
            omega
          · exact z
        have b := sm mx hmx
        refine ⟨j, h1, fun m' z' hm hz => ?_, (List.getElem?_eq_some_iff.mp h1).1, by rw [List.length_set]; exact hl, fun w hw => ?_, ?_⟩
        · obtain ⟨y, hy, rfl⟩ := of_get_ints hz
          have := h2 m' y hm hy
          show (y == mx) = false
          exact beq_eq_false_iff_ne.mpr this
        · rcases List.mem_or_eq_of_mem_set hw with z | z
          · exact sm w z
          · omega
        · rw [sum_set h1]
          omega
      -- number // 4096 % 4 == 0
      refine ⟨_, rfl, _, _, rfl, rfl, ⟨by decide, by decide⟩, _, _, rfl, rfl, (by show (0 : Int) < _; decide), rfl, _, rfl, ite2 (fun _ => ?_) (fun _ => ?_)⟩
      · refine ⟨_, rfl, _, rfl, by omega, by omega, fun L nL => lc_range (lo := 0) (n := (m : Int).toNat) (fun i H' => SameBut a H H' ∧ (∃ ns3, H' a = some (LI ns3)) ∧ ∃ ws, H' L = some (LI ws) ∧ ws.length = i ∧ Small ws) ?_ (fun i H' hi hp => ?_) (fun H3 hp => ?_)⟩
        · have naL : a ≠ L := ne_of_none h2 nL
          refine ⟨s2.new (s2.free nL (by rw [h2]; exact fun z => nomatch z)), ⟨ns1, ?_⟩, [], upd_same, rfl, fun w hw => nomatch hw⟩
          rw [upd_ne naL]
          exact h2
        · have naL : a ≠ L := ne_of_none h2 nL
          have nLH : H L = none := s2.free nL (by rw [h2]; exact fun z => nomatch z)
          obtain ⟨s3, ⟨ns3, h3⟩, ws, hL, hl, sm⟩ := hp
          refine ⟨rfl, .ref a, rfl, a, ns3, rfl, h3, fun H5 s5 h5 => ⟨_, _, rfl, rfl, (by show (0 : Int) < _; decide), _, s5 L _ naL.symm hL, szL' (by rw [List.length_map]; omega), ?_⟩⟩
          refine ⟨(s3.trans s5).new nLH, ⟨_, by rw [upd_ne naL]; exact h5⟩, _, at_app, by rw [List.length_append, hl]; rfl, sm.app (by omega) (by omega)⟩
        · have naL : a ≠ L := ne_of_none h2 nL
          have nLH : H L = none := s2.free nL (by rw [h2]; exact fun z => nomatch z)
          obtain ⟨s3, h3, ws3, hL, hl3, sm3⟩ := hp
          obtain ⟨W, w0, hW⟩ := fin L _ H3 rfl nLH naL s3 h3 ⟨ws3, hL, hl3, sm3⟩
          refine ⟨W, w0, fun μ σ H4 w4 => ?_⟩
          obtain ⟨ws4, _, rfl, s4, ⟨ns4, h4⟩, hL4, hl4, sm4, eμ, step⟩ := hW μ σ H4 w4
          refine ⟨.ref L, rfl, L, ws4, rfl, SqL.of hL4, sm4.big, _, _, rfl, rfl, _, rfl, ite2 (fun c => ?_) (fun c => ?_)⟩
          · have c2 : casesM ws4 > 400 := of_decide_eq_true c
            refine ⟨fun σ' H' => σ' = [some (.ref a), some (.int m), some (.int n0), some (.ref L), none] ∧ ∃ ws' : List Int, ws'.length = m ∧ Small ws' ∧ ws'.sum < ws4.sum ∧ H' = upd H4 L (LI ws'), fun σ' H' hN => ?_, ?_⟩
            · obtain ⟨rfl, ws', l1, l2, l3, rfl⟩ := hN
              exact step ws' l1 l2 l3
            · refine ⟨_, rfl, L, ws4, rfl, SqL.of hL4, by omega, fun mx hmx hle => ⟨_, _, rfl, rfl, _, rfl, _, rfl, .inl ⟨rfl, _, SqL.of hL4⟩, _, rfl, L, ws4, rfl, SqL.of hL4, by omega, fun mx2 hmx2 hle2 => ?_⟩⟩
              have emx : mx2 = mx := Int.le_antisymm (hle mx2 hmx2) (hle2 mx hmx)
              subst emx
              obtain ⟨j, b1, b2, b3, b4, b5, b6⟩ := body L H4 ws4 nLH naL s4 ⟨ns4, h4⟩ hL4 hl4 sm4 c2 mx2 hmx hle
              refine ⟨L, _, _, j, _, rfl, rfl, SqL.of hL4, rfl, by simp [flatV], get_ints b1, by show (mx2 == mx2) = true; exact beq_self_eq_true _, b2, L, _, _, j, rfl, rfl, hL4, by rw [List.length_map]; exact ixN_nat b3, rfl, _, b4, b5, b6, ?_⟩
              rw [← li_set]
          · exact ⟨_, rfl, q H4 L ws4 ns4 s4 nLH naL.symm hL4 h4 hl4 sm4 (Int.not_lt.mp fun z => c (decide_eq_true z))⟩
      · obtain ⟨W, w0, hW⟩ := fin B _ H2 rfl nBH nBa s2 ⟨ns1, h2⟩ ⟨ws, hB, hl, sm⟩
        refine ⟨W, w0, fun μ σ H4 w4 => ?_⟩
        obtain ⟨ws4, _, rfl, s4, ⟨ns4, h4⟩, hL4, hl4, sm4, eμ, step⟩ := hW μ σ H4 w4
        refine ⟨.ref B, rfl, B, ws4, rfl, SqL.of hL4, sm4.big, _, _, rfl, rfl, _, rfl, ite2 (fun c => ?_) (fun c => ?_)⟩
        · have c2 : casesM ws4 > 400 := of_decide_eq_true c
          refine ⟨fun σ' H' => σ' = [some (.ref a), some (.int m), some (.int n0), some (.ref B), none] ∧ ∃ ws' : List Int, ws'.length = m ∧ Small ws' ∧ ws'.sum < ws4.sum ∧ H' = upd H4 B (LI ws'), fun σ' H' hN => ?_, ?_⟩
          · obtain ⟨rfl, ws', l1, l2, l3, rfl⟩ := hN
            exact step ws' l1 l2 l3
          · refine ⟨_, rfl, B, ws4, rfl, SqL.of hL4, by omega, fun mx hmx hle => ⟨_, _, rfl, rfl, _, rfl, _, rfl, .inl ⟨rfl, _, SqL.of hL4⟩, _, rfl, B, ws4, rfl, SqL.of hL4, by omega, fun mx2 hmx2 hle2 => ?_⟩⟩
            have emx : mx2 = mx := Int.le_antisymm (hle mx2 hmx2) (hle2 mx hmx)
            subst emx
            obtain ⟨j, b1, b2, b3, b4, b5, b6⟩ := body B H4 ws4 nBH nBa s4 ⟨ns4, h4⟩ hL4 hl4 sm4 c2 mx2 hmx hle
            refine ⟨B, _, _, j, _, rfl, rfl, SqL.of hL4, rfl, by simp [flatV], get_ints b1, by show (mx2 == mx2) = true; exact beq_self_eq_true _, b2, B, _, _, j, rfl, rfl, hL4, by rw [List.length_map]; exact ixN_nat b3, rfl, _, b4, b5, b6, ?_⟩
            rw [← li_set]
        · exact ⟨_, rfl, q H4 B ws4 ns4 s4 nBH nBa.symm hL4 h4 hl4 sm4 (Int.not_lt.mp fun z => c (decide_eq_true z))⟩
end
/-! ### lesser wants, in order -/
/-- 0, 1, .. n (none below nought) -/
def upto (n : Int) : List Int := (List.range (n + 1).toNat).map fun (i : Nat) => (i : Int)
def lesserF : List Int → List (List Int)
  | [] => [[]]
  | n :: w => (upto n).flatMap fun a => (lesserF w).map (a :: ·)
theorem lesserF_snoc : ∀ (w : List Int) (n : Int), lesserF (w ++ [n]) = (lesserF w).flatMap fun s => (upto n).map fun l => s ++ [l]
  | [], n => by
    show (upto n).flatMap (fun a => [[a]]) = _
    simp only [lesserF, List.flatMap_cons, List.flatMap_nil, List.append_nil, List.nil_append]
    induction upto n with
    | nil => rfl
    | cons x r ih => rw [List.flatMap_cons, List.map_cons, ih]; rfl
  | m :: w, n => by
    show (upto m).flatMap (fun a => (lesserF (w ++ [n])).map (a :: ·)) = ((upto m).flatMap fun a => (lesserF w).map (a :: ·)).flatMap _
    rw [lesserF_snoc w n, List.flatMap_assoc]
    congr 1
    funext a
    rw [List.map_flatMap, List.flatMap_map]
    congr 1
    funext s
    rw [List.map_map]
    rfl
theorem upto_length {n : Int} : (upto n).length = (n + 1).toNat := by
  unfold upto
  rw [List.length_map, List.length_range]
theorem upto_get {n : Int} {i : Nat} (h : i < (n + 1).toNat) : (upto n)[i]? = some (i : Int) := by
  unfold upto
  rw [List.getElem?_map, List.getElem?_range h]
  rfl
theorem flatMap_const_length {α β : Type} (l : List α) (f : α → List β) (c : Nat) (h : ∀ a ∈ l, (f a).length = c) : (l.flatMap f).length = l.length * c := by
  induction l with
  | nil => simp
  | cons a r ih =>
    rw [List.flatMap_cons, List.length_append, h a List.mem_cons_self, ih fun b hb => h b (List.mem_cons_of_mem _ hb), List.length_cons, Nat.add_mul]
    omega
theorem lesserF_length_cons (n : Int) (w : List Int) : (lesserF (n :: w)).length = (n + 1).toNat * (lesserF w).length := by
  show ((upto n).flatMap fun a => (lesserF w).map (a :: ·)).length = _
  rw [flatMap_const_length _ _ (lesserF w).length (fun a _ => List.length_map _), upto_length]
theorem cases_foldl : ∀ (w : List Int) (p : Int), (∀ x ∈ w, 0 ≤ x) → w.foldl (fun p w => p * (w + 1)) p = p * ((lesserF w).length : Int)
  | [], p, _ => by
    show p = p * ((1 : Nat) : Int)
    omega
  | n :: w, p, h => by
    have hn := h n List.mem_cons_self
    show w.foldl (fun p w => p * (w + 1)) (p * (n + 1)) = _
    rw [cases_foldl w _ fun x hx => h x (List.mem_cons_of_mem _ hx), lesserF_length_cons, Int.natCast_mul, Int.toNat_of_nonneg (by omega), Int.mul_assoc]
theorem casesM_lesser {w : List Int} (h : ∀ x ∈ w, 0 ≤ x) : casesM w = ((lesserF w).length : Int) := by
  unfold casesM
  rw [cases_foldl w 1 h]
  omega
/-- the next one, by the last place that is less -/
def nextF : List Int → List Int → Option (List Int)
  | a :: r, b :: w => match nextF r w with
    | some r' => some (a :: r')
    | none => if a = b then none else some ((a + 1) :: List.replicate r.length 0)
  | _, _ => none
theorem nextF_self : ∀ w : List Int, nextF w w = none
  | [] => rfl
  | a :: w => by
    unfold nextF
    rw [nextF_self w]
    simp
theorem nextF_at : ∀ (l l' r : List Int) (a b : Int), l.length = l'.length → a ≠ b → nextF (l ++ a :: r) (l' ++ b :: r) = some (l ++ (a + 1) :: List.replicate r.length 0)
  | [], [], r, a, b, _, h => by
    show nextF (a :: r) (b :: r) = some ((a + 1) :: List.replicate r.length 0)
    unfold nextF
    rw [nextF_self r]
    simp [h]
  | x :: l, y :: l', r, a, b, hl, h => by
    show nextF (x :: (l ++ a :: r)) (y :: (l' ++ b :: r)) = _
    unfold nextF
    rw [nextF_at l l' r a b (by simpa using hl) h]
    rfl
/-- what a row of lists is behind another -/
inductive Chain (w : List Int) : List (List Int) → Prop
  | one {r : List Int} (h : nextF r w = none) : Chain w [r]
  | cons {r s : List Int} {l : List (List Int)} (h : nextF r w = some s) (t : Chain w (s :: l)) : Chain w (r :: s :: l)
theorem Chain.map {w : List Int} {a n : Int} : ∀ {l : List (List Int)} {r : List Int}, Chain w (r :: l) → ∀ {rest : List (List Int)}, (a = n ∧ rest = [] ∨ a ≠ n ∧ ∃ z m, rest = z :: m ∧ z = (a + 1) :: List.replicate w.length 0 ∧ Chain (n :: w) (z :: m)) → (∀ s ∈ r :: l, s.length = w.length) →
    Chain (n :: w) (((r :: l).map (a :: ·)) ++ rest)
  | [], r, .one h, rest, hr, hlen => by
    have hrl := hlen r List.mem_cons_self
    rcases hr with ⟨e, rfl⟩ | ⟨e, z, m, rfl, ez, c⟩
    · refine .one ?_
      show nextF (a :: r) (n :: w) = none
      unfold nextF
      rw [h]
      simp [e]
    · refine .cons ?_ c
      show nextF (a :: r) (n :: w) = some z
      unfold nextF
      rw [h]
      simp [e, ez, hrl]
  | s :: l, r, .cons h t, rest, hr, hlen => by
    refine .cons ?_ (Chain.map t hr fun x hx => hlen x (List.mem_cons_of_mem _ hx))
    show nextF (a :: r) (n :: w) = some (a :: s)
    unfold nextF
    rw [h]
theorem lesserF_len : ∀ {w r : List Int}, r ∈ lesserF w → r.length = w.length
  | [], r, h => by
    rw [List.mem_singleton.mp h]
  | n :: w, r, h => by
    obtain ⟨a, _, h2⟩ := List.mem_flatMap.mp h
    obtain ⟨s, h3, rfl⟩ := List.mem_map.mp h2
    rw [List.length_cons, List.length_cons, lesserF_len h3]
/-- the tail of the order: from first number k on, d more -/
theorem chain_from {n : Int} {w : List Int} {l : List (List Int)} (hl : lesserF w = List.replicate w.length 0 :: l) (c : Chain w (lesserF w)) : ∀ (d k : Nat), ((k + d : Nat) : Int) = n →
    ∃ z m, ((List.range (d + 1)).map fun (i : Nat) => ((k + i : Nat) : Int)).flatMap (fun a => (lesserF w).map (a :: ·)) = z :: m ∧ z = (k : Int) :: List.replicate w.length 0 ∧ Chain (n :: w) (z :: m)
  | 0, k, e => by
    have c' := c
    rw [hl] at c'
    have q := Chain.map (a := (k : Int)) (n := n) c' (rest := []) (.inl ⟨by omega, rfl⟩) (fun s hs => lesserF_len (by rw [hl]; exact hs))
    refine ⟨(k : Int) :: List.replicate w.length 0, l.map ((k : Int) :: ·), ?_, rfl, ?_⟩
    · simp [hl]
    · simpa using q
  | d + 1, k, e => by
    obtain ⟨z, m, h1, h2, h3⟩ := chain_from (n := n) hl c d (k + 1) (by omega)
    have c' := c
    rw [hl] at c'
    have q := Chain.map (a := (k : Int)) (n := n) c' (rest := z :: m) (.inr ⟨by omega, z, m, rfl, by rw [h2]; rfl, h3⟩) (fun s hs => lesserF_len (by rw [hl]; exact hs))
    refine ⟨(k : Int) :: List.replicate w.length 0, l.map ((k : Int) :: ·) ++ (z :: m), ?_, rfl, ?_⟩
    · rw [List.range_succ_eq_map, List.map_cons, List.flatMap_cons, List.map_map]
      have e2 : ((fun (i : Nat) => ((k + i : Nat) : Int)) ∘ Nat.succ) = fun (i : Nat) => ((k + 1 + i : Nat) : Int) := by
        funext i
        show ((k + (i + 1) : Nat) : Int) = _
        congr 1
        omega
      rw [e2, h1, hl]
      rfl
    · simpa using q
theorem lesserF_chain : ∀ {w : List Int}, (∀ x ∈ w, 0 ≤ x) → Chain w (lesserF w) ∧ ∃ l, lesserF w = List.replicate w.length 0 :: l
  | [], _ => ⟨.one rfl, [], rfl⟩
  | n :: w, h => by
    have hn := h n List.mem_cons_self
    obtain ⟨c, l, hl⟩ := lesserF_chain (w := w) fun x hx => h x (List.mem_cons_of_mem _ hx)
    obtain ⟨z, m, h1, h2, h3⟩ := chain_from (n := n) hl c n.toNat 0 (by omega)
    have e : lesserF (n :: w) = z :: m := by
      rw [← h1]
      show (upto n).flatMap _ = _
      unfold upto
      rw [show (n + 1).toNat = n.toNat + 1 by omega]
      congr 2
      funext i
      congr 1
      omega
    rw [e]
    exact ⟨h3, m, by rw [h2]; rfl⟩
theorem Chain.at {w : List Int} : ∀ {l : List (List Int)} {i : Nat} {r : List Int}, Chain w l → l[i]? = some r → nextF r w = l[i + 1]?
  | _, 0, r, .one h, e => by
    cases Option.some.inj e
    exact h
  | _, i + 1, r, .one h, e => by simp at e
  | _, 0, r, .cons h t, e => by
    cases Option.some.inj e
    exact h
  | _, i + 1, r, .cons h t, e => by
    have q := Chain.at (i := i) (r := r) t (by simpa using e)
    simpa using q
/-! ### lesser -/
abbrev s_lesser : Stmt := topS 4
abbrev N_lesser : List Str := ["want", "begun", "number", "start", "less"]
theorem sc_lesser : FnScope N_lesser ["want"] (defScope s_lesser) := ⟨rfl, rfl, rfl, by decide +kernel, rfl, by decide +kernel, by decide +kernel⟩

/-- at D stands a list of new lists, one for each of rs -/
def Made (H1 : Hp) (D : Addr) (H' : Hp) (rs : List (List Int)) : Prop := ∃ bs : List Addr, H' D = some (.lst (bs.map V.ref)) ∧ bs.length = rs.length ∧ bs.Nodup ∧ ∀ (i : Nat) b r, bs[i]? = some b → rs[i]? = some r → H1 b = none ∧ b ≠ D ∧ H' b = some (LI r)
theorem Made.snoc {H1 H' H2 : Hp} {D p : Addr} {rs : List (List Int)} {r : List Int} (h : Made H1 D H' rs) (s1 : Same H1 H') (s2 : Same H' H2) (np : H' p = none) (hp : H2 p = some (LI r)) :
    ∃ acc, H2 D = some (.lst acc) ∧ acc.length = rs.length ∧ Made H1 D (upd H2 D (.lst (acc ++ [.ref p]))) (rs ++ [r]) := by
  obtain ⟨bs, hD, hl, nd, hr⟩ := h
  have npD : p ≠ D := (ne_of_none hD np).symm
  refine ⟨bs.map V.ref, s2 _ _ hD, by rw [List.length_map]; exact hl, bs ++ [p], ?_, ?_, ?_, fun i b r' hb hr' => ?_⟩
  · rw [upd_same, List.map_append]
    rfl
  · rw [List.length_append, List.length_append, hl]
    rfl
  · refine List.nodup_append.mpr ⟨nd, by simp, fun x hx y hy => ?_⟩
    rw [List.mem_singleton.mp hy]
    obtain ⟨i, hi, e⟩ := List.getElem_of_mem hx
    have h1 : bs[i]? = some x := by rw [List.getElem?_eq_getElem hi, e]
    obtain ⟨r0, h2⟩ : ∃ r0, rs[i]? = some r0 := ⟨rs[i]'(by omega), List.getElem?_eq_getElem (by omega)⟩
    exact ne_of_none (hr i x r0 h1 h2).2.2 np
  · rcases Nat.lt_or_ge i bs.length with hi | hi
    · rw [List.getElem?_append_left hi] at hb
      rw [List.getElem?_append_left (by omega)] at hr'
      obtain ⟨t1, t2, t3⟩ := hr i b r' hb hr'
      exact ⟨t1, t2, by rw [upd_ne t2]; exact s2 _ _ t3⟩
    · rw [List.getElem?_append_right hi] at hb
      rw [List.getElem?_append_right (by omega)] at hr'
      have e0 : i - bs.length = 0 := by
        cases e : i - bs.length with
        | zero => rfl
        | succ n => rw [e] at hb; simp at hb
      rw [← hl] at hr'
      rw [e0] at hb hr'
      cases Option.some.inj hb
      cases Option.some.inj hr'
      exact ⟨s1.free np, npD, by rw [upd_ne npD]; exact hp⟩
theorem lesserF_le : ∀ {w : List Int}, Small w → (lesserF w).length ≤ 10 ^ w.length
  | [], _ => by decide
  | n :: w, h => by
    have hn := h n List.mem_cons_self
    have ih := lesserF_le (w := w) fun x hx => h x (List.mem_cons_of_mem _ hx)
    rw [lesserF_length_cons, List.length_cons, Nat.pow_succ, Nat.mul_comm]
    exact Nat.mul_le_mul ih (by omega)
theorem lesserF_le4 {w : List Int} (h : Small w) (h4 : w.length ≤ 4) : (lesserF w).length ≤ 10000 :=
  Nat.le_trans (lesserF_le h) (Nat.le_trans (Nat.pow_le_pow_right (by decide) h4) (by decide))
def sp_lesser (K : PySem.W.Frag) : Sp := fun vs H Q _ => ∃ (a : Addr) (ws : List Int), vs = [.ref a] ∧ SqL K H a (ws.map V.int) ∧ ws.length ≤ 4 ∧ Small ws ∧
  ∀ H' p, Same H H' → H p = none → Made H p H' (lesserF ws) → Q (.ref p) H'
section
variable {P : Program} {w : World} {K : PySem.W.Frag} {mg : Str → Option Value} {base : Heap}
theorem ok_lesser {f : Addr} {fd : FuncData} {k : Nat} (M : Names mg) (D : Def K mg "lesser" s_lesser ["want"] f fd) : FnOk P w K mg base CX0 (k + 1) f fd ["want"] (sp_lesser K) := by
  refine D.F.ok sc_lesser (fun vs H Q E h => ?_) (fun cdv A outer s H vs Q E hr h => ?_)
  · obtain ⟨a, ws, rfl, _⟩ := h
    rfl
  · obtain ⟨a, ws, rfl, ha, h4, sm, q⟩ := h
    refine ⟨_, (pss_cons (ps_set (i := 1) sc_lesser.nd rfl (Or.inl rfl) (pe_lst (pa_cons (pe_lst pa_nil) pa_nil)))
  (pss_cons (ps_for PassesOwn.never rfl (pi_list (pv 0)) (pg_name (i := 2) sc_lesser.nd rfl (Or.inr rfl))
   (pss_one (ps_setLc2 (i := 1) (own := [("start", 3), ("less", 4)]) (vs1 := [4]) (by rfl) sc_lesser.nd rfl rfl (sw_true rfl rfl rfl (by decide +kernel)) (pi_list (pv 1)) (blkOk_by (own := [("start", 3), ("less", 4)]) (N := N_lesser) (sc := defScope s_lesser) (by decide +kernel)) (by decide) (fun _ _ _ _ _ => (pg_name (i := 3) sc_lesser.nd rfl (Or.inl rfl))) (fun _ _ _ _ _ => pts_nil) (fun _ _ _ _ _ => (pi_range1 (by rfl) M.range (pa_cons (pe_op op_add (pv 2) pe_int) pa_nil))) (fun _ _ _ _ _ => (pg_name (i := 4) sc_lesser.nd rfl (Or.inl rfl))) (fun _ _ _ _ _ => pts_nil) (fun _ _ _ _ _ => (pe_op op_cat (pv 3) (pe_lst (pa_cons (pv 4) pa_nil)))))))
  (pss_one (ps_ret (pv 1))))), ?_⟩
    refine ⟨Nat.zero_le _, fun z nz => ⟨by show 1 ≤ sizeLine; decide, fun b nb => ?_⟩⟩
    have nzb : z ≠ b := ne_of_none upd_same nb
    have s1 : Same H (upd H z (.lst [])) := same_upd nz
    have s2 : Same H (upd (upd H z (.lst [])) b (.lst [.ref z])) := s1.trans (same_upd nb)
    refine ⟨_, rfl, a, rfl, ⟨_, s2.seq ha⟩, for_list (xs := ws.map V.int) (fun i σ H' => ∃ p y2, σ = [some (.ref a), some (.ref p), y2, none, none] ∧ Same H H' ∧ H p = none ∧ Made H p H' (lesserF (ws.take i))) ⟨b, none, rfl, s2, s1.free nb, [z], upd_same, rfl, by simp, fun i b' r hb hr => ?_⟩ (fun i σ H' _ hp => ?_) (fun i x σ H1 hx hp => ?_) (fun σ H' hp => ?_)⟩
    · cases i with
      | succ i => simp at hb
      | zero =>
        cases Option.some.inj hb
        cases Option.some.inj hr
        exact ⟨nz, nzb, by rw [upd_ne nzb]; exact upd_same⟩
    · obtain ⟨p, y2, _, s3, _⟩ := hp
      exact s3.seq ha
    · obtain ⟨p, y2, rfl, s3, np, as, hp, hal, nd, hrows⟩ := hp
      obtain ⟨n, hn, rfl⟩ := of_get_ints hx
      have bn := sm n (List.mem_of_getElem? hn)
      have etk := take_succ_at hn
      have smk : Small (ws.take (i + 1)) := fun x hx => sm x (List.mem_of_mem_take hx)
      have big : (lesserF (ws.take (i + 1))).length ≤ 10000 := lesserF_le4 smk (by rw [List.length_take]; omega)
      rw [etk, lesserF_snoc] at big
      generalize hrs : lesserF (ws.take i) = rs at hal hrows big
      have blen : ∀ j, ((rs.take j).flatMap fun s => (upto n).map fun l => s ++ [l]).length = min j rs.length * (n + 1).toNat := fun j => by
        rw [flatMap_const_length _ _ (n + 1).toNat (fun a _ => by rw [List.length_map, upto_length]), List.length_take]
      rw [flatMap_const_length _ _ (n + 1).toNat (fun a _ => by rw [List.length_map, upto_length])] at big
      refine ⟨_, rfl, p, rfl, ⟨_, SqL.of hp⟩, fun L nL => ?_⟩
      have nLH : H L = none := s3.free nL
      refine ⟨fun j m H' => m = as.length - j ∧ j ≤ as.length ∧ Same H1 H' ∧ Made H1 L H' ((rs.take j).flatMap fun s => (upto n).map fun l => s ++ [l]), ⟨_, rfl, Nat.zero_le _, same_upd nL, [], upd_same, rfl, by simp, fun j b' r hb => by simp at hb⟩, fun j m H2 hW => ?_⟩
      obtain ⟨rfl, hj, s4, md⟩ := hW
      have hA : SqL K H2 p (as.map V.ref) := SqL.of (s4 _ _ hp)
      by_cases hjl : j < as.length
      · obtain ⟨c, hc⟩ : ∃ c, as[j]? = some c := ⟨as[j], List.getElem?_eq_getElem hjl⟩
        obtain ⟨r, hr⟩ : ∃ r, rs[j]? = some r := ⟨rs[j]'(by omega), List.getElem?_eq_getElem (by omega)⟩
        have gc : (as.map V.ref)[j]? = some (.ref c) := by rw [List.getElem?_map, hc]; rfl
        obtain ⟨nc, ncp, hcr⟩ := hrows j c r hc hr
        have hc2 := s4 _ _ hcr
        refine .inr ⟨⟨_, _, hA, gc⟩, fun H' => Same H1 H' ∧ Made H1 L H' ((rs.take (j + 1)).flatMap fun s => (upto n).map fun l => s ++ [l]), fun H' hN => ⟨_, by omega, rfl, by omega, hN⟩, fun x H3 hy => ?_⟩
        obtain ⟨rfl, fy⟩ := hy
        have ex : x = .ref c := Option.some.inj ((fy _ hA).symm.trans gc)
        subst ex
        refine ⟨rfl, _, rfl, _, _, rfl, rfl, _, rfl, by omega, by omega, fun t m' H' => m' = (n + 1).toNat - t ∧ t ≤ (n + 1).toNat ∧ Same H1 H' ∧ H' c = some (LI r) ∧ Made H1 L H' (((rs.take j).flatMap fun s => (upto n).map fun l => s ++ [l]) ++ ((upto n).take t).map fun l => r ++ [l]), ⟨_, rfl, Nat.zero_le _, s4, hc2, ?_⟩, fun t m' H4 hW1 => ?_⟩
        · rw [List.take_zero, List.map_nil, List.append_nil]
          exact md
        · obtain ⟨rfl, ht, s5, hc5, md5⟩ := hW1
          by_cases htl : t < (n + 1).toNat
          · refine .inr ⟨htl, fun H' => Same H1 H' ∧ H' c = some (LI r) ∧ Made H1 L H' (((rs.take j).flatMap fun s => (upto n).map fun l => s ++ [l]) ++ ((upto n).take (t + 1)).map fun l => r ++ [l]), fun H' hN => ⟨_, by omega, rfl, htl, hN⟩, fun x H5 hy => ?_⟩
            obtain ⟨rfl, rfl⟩ := hy
            refine ⟨rfl, _, rfl, _, rfl, by show 1 ≤ sizeLine; decide, fun u nu => ?_⟩
            have ncu : c ≠ u := ne_of_none hc5 nu
            have hc6 : upd H5 u (.lst [.int (0 + (t : Int))]) c = some (LI r) := by rw [upd_ne ncu]; exact hc5
            have hrl : r.length ≤ 4 := by
              have z := lesserF_len (w := ws.take i) (r := r) (by rw [hrs]; exact List.mem_of_getElem? hr)
              rw [z, List.length_take]
              omega
            refine ⟨c, u, _, _, rfl, rfl, hc6, upd_same, szL (by rw [List.length_map]; show r.length + 1 ≤ _; omega), fun v nv => ?_⟩
            have s6 : Same H5 (upd (upd H5 u (.lst [.int (0 + (t : Int))])) v (.lst (r.map V.int ++ [.int (0 + (t : Int))]))) := (same_upd nu).trans (same_upd nv)
            have nv5 : H5 v = none := (same_upd nu).free nv
            obtain ⟨acc, ha1, ha2, ha3⟩ := md5.snoc (r := r ++ [(0 + (t : Int))]) s5 s6 nv5 (by rw [upd_same, li_app])
            refine ⟨acc, ha1, szL' ?_, ?_, ?_, ?_⟩
            · rw [ha2, List.length_append, blen, List.length_map, List.length_take, upto_length]
              have m1 : min j rs.length = j := by omega
              have m2 : min t (n + 1).toNat ≤ 10 := by omega
              have m3 : j * (n + 1).toNat ≤ rs.length * (n + 1).toNat := Nat.mul_le_mul_right _ (by omega)
              rw [m1]
              omega
            · refine sm_new (s5.trans s6) nL
            · have ncL : c ≠ L := ne_of_none hcr nL
              rw [upd_ne ncL]
              exact s6 _ _ hc5
            · have e2 : (upto n).take (t + 1) = (upto n).take t ++ [(0 + (t : Int))] := take_succ_at (by rw [upto_get htl, Int.zero_add])
              rw [e2, List.map_append, ← List.append_assoc]
              exact ha3
          · have et : t = (n + 1).toNat := by omega
            refine .inl ⟨by show (n + 1).toNat ≤ t; omega, s5, ?_⟩
            have e2 : (upto n).take t = upto n := List.take_of_length_le (by rw [upto_length]; omega)
            rw [e2] at md5
            rw [take_succ_at hr, List.flatMap_append]
            simpa using md5
      · have ej : j = as.length := by omega
        refine .inl ⟨⟨_, hA, by rw [List.length_map]; omega⟩, ?_⟩
        rw [List.take_of_length_le (by omega)] at md
        refine ⟨L, _, rfl, s3.trans s4, nLH, ?_⟩
        rw [etk, lesserF_snoc, hrs]
        obtain ⟨bs, m1, m2, m3, m4⟩ := md
        exact ⟨bs, m1, m2, m3, fun i b r hb hr => ⟨s3.free (m4 i b r hb hr).1, (m4 i b r hb hr).2⟩⟩
    · obtain ⟨p, y2, rfl, s3, np, md⟩ := hp
      rw [List.length_map, List.take_length] at md
      exact ⟨_, rfl, q H' p s3 np md⟩
end
/-! ### the mathematics of wants -/
theorem hu65 {k : Nat} {A : Around} (hr : Room k A) : A.units + 65 < cLine := by
  have := hr.un
  omega
/-- a >= b of lists -/
def rGeD (K : PySem.W.Frag) : R2 := fun x y H Q => ∃ d e, Dp K H x d ∧ Dp K H y e ∧ PySem.W.alike d e = true ∧ d ≠ .none ∧ SeqAt.shaped d = true ∧ Q (.bl (!PySem.W.dataLt d e)) H
theorem op_geDK {X : Cx} {K : PySem.W.Frag} (hK : X.K = K) (hu : X.A.units + 64 < cLine) : OpR X (compareOp .GtE) (rGeD K) := by
  subst hK
  intro pins s σ H x y v u Q I rx ry h
  obtain ⟨d, e, hd, he, al, hn, sd, q⟩ := h
  obtain ⟨as, r1⟩ := Dp.reads I d x v hd rx
  obtain ⟨bs, r2⟩ := Dp.reads I e y u he ry
  exact PySem.W.ge_data r1 r2 al hn (SeqAt.room_of_shaped sd hu) ⟨.bl _, H, I, rfl, q⟩
def lexI : List Int → List Int → Bool
  | _, [] => false
  | [], _ :: _ => true
  | a :: r, b :: s => if a = b then lexI r s else decide (a < b)
theorem alike_ints : ∀ ns ms : List Int, PySem.W.alikeAll (ns.map PyData.int) (ms.map PyData.int) = true
  | [], _ => by simp [PySem.W.alikeAll]
  | _ :: _, [] => by simp [PySem.W.alikeAll]
  | a :: r, b :: s => by
    have ih := alike_ints r s
    simp [PySem.W.alikeAll, PySem.W.alike, ih]
theorem lt_ints : ∀ ns ms : List Int, PyProof.Rows.lexLt PyProof.Rows.itemOrd (PySem.W.keyToksAll (ns.map PyData.int)) (PySem.W.keyToksAll (ms.map PyData.int)) = lexI ns ms
  | [], [] => by simp [PySem.W.keyToksAll, lexI]; rfl
  | [], b :: s => by simp [PySem.W.keyToksAll, lexI]; rfl
  | a :: r, [] => by simp [PySem.W.keyToksAll, lexI]; rfl
  | a :: r, b :: s => by
    have ih := lt_ints r s
    have al : PySem.W.alike (PyData.int a) (PyData.int b) = true := by simp [PySem.W.alike]
    by_cases h : a = b
    · subst h
      rw [List.map_cons, List.map_cons, PySem.W.dataLt_all_yes al (by simp [PyData.eqv]), ih]
      simp [lexI]
    · rw [List.map_cons, List.map_cons, PySem.W.dataLt_all_no al (by simp [PyData.eqv, h]), PySem.W.dataLt_int]
      simp [lexI, h]
theorem dataLt_ints (ns ms : List Int) : PySem.W.dataLt (.list (ns.map PyData.int)) (.list (ms.map PyData.int)) = lexI ns ms := by
  rw [PySem.W.dataLt_list, lt_ints]
theorem next_lt : ∀ {r w s : List Int}, nextF r w = some s → lexI r s = true
  | [], w, s, h => by simp [nextF] at h
  | a :: r, [], s, h => by simp [nextF] at h
  | a :: r, b :: w, s, h => by
    unfold nextF at h
    split at h
    · rename_i r' hr
      cases Option.some.inj h
      have ih := next_lt hr
      simp [lexI, ih]
    · split at h
      · cases h
      · cases Option.some.inj h
        have : ¬ a = a + 1 := by omega
        simp [lexI, this]
        omega
theorem upto_snoc {n : Int} (h : 0 ≤ n) : ∃ l, upto n = l ++ [n] := by
  refine ⟨(List.range n.toNat).map fun (i : Nat) => (i : Int), ?_⟩
  unfold upto
  rw [show (n + 1).toNat = n.toNat + 1 by omega, List.range_succ, List.map_append]
  simp
  omega
theorem lesserF_last : ∀ {w : List Int}, (∀ x ∈ w, 0 ≤ x) → ∃ l, lesserF w = l ++ [w]
  | [], _ => ⟨[], rfl⟩
  | n :: w, h => by
    obtain ⟨l, hl⟩ := lesserF_last (w := w) fun x hx => h x (List.mem_cons_of_mem _ hx)
    obtain ⟨u, hu⟩ := upto_snoc (h n List.mem_cons_self)
    refine ⟨u.flatMap (fun a => (lesserF w).map (a :: ·)) ++ l.map (n :: ·), ?_⟩
    show (upto n).flatMap _ = _
    rw [hu, List.flatMap_append, List.flatMap_singleton, hl, List.map_append, List.append_assoc]
    rfl
theorem mem_upto {n a : Int} : a ∈ upto n ↔ 0 ≤ a ∧ a ≤ n := by
  unfold upto
  constructor
  · intro h
    obtain ⟨i, hi, rfl⟩ := List.mem_map.mp h
    have := List.mem_range.mp hi
    omega
  · intro h
    exact List.mem_map.mpr ⟨a.toNat, List.mem_range.mpr (by omega), by omega⟩
theorem had_cons (c : Int) (cs : List Int) (i : Nat) : hadM (c :: cs) (i + 1) = hadM cs i := rfl
theorem covers_cons (c : Int) (cs : List Int) (r : Int) (rs : List Int) : coversM (c :: cs) (r :: rs) = (decide (r ≤ c) && coversM cs rs) := by
  unfold coversM
  rw [List.length_cons, List.range_succ_eq_map, List.all_cons, List.all_map]
  rfl
theorem covers_nil (cs : List Int) : coversM cs [] = true := rfl
/-- the lesser wants are the lists from nought on that are covered -/
theorem mem_lesserF : ∀ {w r : List Int}, (∀ x ∈ r, 0 ≤ x) → r.length = w.length → (r ∈ lesserF w ↔ coversM w r = true)
  | [], [], _, _ => by simp [lesserF, covers_nil]
  | n :: w, [], _, h => by simp at h
  | [], a :: r, _, h => by simp at h
  | n :: w, a :: r, h, hl => by
    have ih := mem_lesserF (w := w) (r := r) (fun x hx => h x (List.mem_cons_of_mem _ hx)) (by simpa using hl)
    have ha := h a List.mem_cons_self
    rw [covers_cons, Bool.and_eq_true, decide_eq_true_eq, ← ih]
    show a :: r ∈ (upto n).flatMap (fun a => (lesserF w).map (a :: ·)) ↔ _
    rw [List.mem_flatMap]
    constructor
    · rintro ⟨b, hb, h2⟩
      obtain ⟨s, hs, e⟩ := List.mem_map.mp h2
      cases e
      exact ⟨(mem_upto.mp hb).2, hs⟩
    · rintro ⟨h1, h2⟩
      exact ⟨a, mem_upto.mpr ⟨ha, h1⟩, List.mem_map.mpr ⟨r, h2, rfl⟩⟩
theorem lesserF_nonneg : ∀ {w r : List Int}, r ∈ lesserF w → ∀ x ∈ r, 0 ≤ x
  | [], r, h, x, hx => by
    rw [List.mem_singleton.mp h] at hx
    cases hx
  | n :: w, r, h, x, hx => by
    obtain ⟨a, ha, h2⟩ := List.mem_flatMap.mp h
    obtain ⟨s, h3, rfl⟩ := List.mem_map.mp h2
    rcases List.mem_cons.mp hx with e | e
    · rw [e]
      exact (mem_upto.mp ha).1
    · exact lesserF_nonneg h3 x e
theorem upto_filter {l n : Int} (h0 : 0 ≤ l) (h : l ≤ n) : (upto n).filter (fun a => decide (a ≤ l)) = upto l := by
  unfold upto
  obtain ⟨k, hk⟩ : ∃ k : Nat, n = l + k := ⟨(n - l).toNat, by omega⟩
  subst hk
  clear h
  induction k with
  | zero =>
    rw [List.filter_eq_self.mpr]
    · simp
    · intro a ha
      obtain ⟨i, hi, rfl⟩ := List.mem_map.mp ha
      have := List.mem_range.mp hi
      exact decide_eq_true (by omega)
  | succ k ih =>
    rw [show (l + ((k + 1 : Nat) : Int) + 1).toNat = (l + (k : Int) + 1).toNat + 1 by omega, List.range_succ, List.map_append, List.filter_append, ih]
    simp
    omega
/-- those of the lesser wants that are covered by less -/
theorem lesser_filter : ∀ {w l : List Int}, (∀ x ∈ l, 0 ≤ x) → l.length = w.length → coversM w l = true → (lesserF w).filter (fun r => coversM l r) = lesserF l
  | [], [], _, _, _ => rfl
  | n :: w, [], _, h, _ => by simp at h
  | [], a :: r, _, h, _ => by simp at h
  | n :: w, a :: l, h, hl, hc => by
    rw [covers_cons, Bool.and_eq_true, decide_eq_true_eq] at hc
    have ih := lesser_filter (w := w) (l := l) (fun x hx => h x (List.mem_cons_of_mem _ hx)) (by simpa using hl) hc.2
    have ha := h a List.mem_cons_self
    show ((upto n).flatMap fun b => (lesserF w).map (b :: ·)).filter _ = (upto a).flatMap _
    rw [List.filter_flatMap, ← upto_filter ha hc.1]
    induction upto n with
    | nil => rfl
    | cons b u ihu =>
      rw [List.flatMap_cons, ihu, List.filter_map]
      by_cases hb : b ≤ a
      · rw [List.filter_cons_of_pos (p := fun z => decide (z ≤ a)) (decide_eq_true hb), List.flatMap_cons, ← ih]
        congr 2
        apply List.filter_congr
        intro r _
        show coversM (a :: l) (b :: r) = _
        rw [covers_cons, decide_eq_true hb, Bool.true_and]
      · rw [List.filter_cons_of_neg (p := fun z => decide (z ≤ a)) (by simpa using hb)]
        have e : (lesserF w).filter ((fun r => coversM (a :: l) r) ∘ (b :: ·)) = [] := by
          rw [List.filter_eq_nil_iff]
          intro r _
          show ¬ coversM (a :: l) (b :: r) = true
          rw [covers_cons, decide_eq_false hb]
          simp
        rw [e]
        rfl
theorem restM_cons (n : Int) (w : List Int) (c : Int) (cs : List Int) : restM (n :: w) (c :: cs) = (if n - c > 0 then n - c else 0) :: restM w cs := by
  unfold restM
  rw [List.length_cons, List.range_succ_eq_map, List.map_cons, List.map_map]
  rfl
theorem restM_nil (cs : List Int) : restM [] cs = [] := rfl
theorem restM_nonneg (w cs : List Int) : ∀ x ∈ restM w cs, 0 ≤ x := fun x hx => by
  unfold restM at hx
  obtain ⟨i, _, rfl⟩ := List.mem_map.mp hx
  split <;> omega
theorem rest_small : ∀ {w cs : List Int}, Small w → (∀ x ∈ cs, 0 ≤ x) → cs.length = w.length → coversM w (restM w cs) = true ∧ Small (restM w cs)
  | [], [], _, _, _ => ⟨rfl, fun x hx => nomatch hx⟩
  | n :: w, [], _, _, h => by simp at h
  | [], a :: r, _, _, h => by simp at h
  | n :: w, c :: cs, sm, h, hl => by
    obtain ⟨i1, i2⟩ := rest_small (w := w) (cs := cs) (fun x hx => sm x (List.mem_cons_of_mem _ hx)) (fun x hx => h x (List.mem_cons_of_mem _ hx)) (by simpa using hl)
    have hn := sm n List.mem_cons_self
    have hc := h c List.mem_cons_self
    rw [restM_cons, covers_cons, i1, Bool.and_true]
    refine ⟨decide_eq_true (by split <;> omega), fun x hx => ?_⟩
    rcases List.mem_cons.mp hx with e | e
    · rw [e]
      split <;> omega
    · exact i2 x e
theorem rest_zero : ∀ {w cs : List Int}, cs.length = w.length → (restM w cs = List.replicate w.length 0 ↔ coversM cs w = true)
  | [], [], _ => by simp [restM_nil, covers_nil]
  | n :: w, [], h => by simp at h
  | [], a :: r, h => by simp at h
  | n :: w, c :: cs, hl => by
    have ih := rest_zero (w := w) (cs := cs) (by simpa using hl)
    rw [restM_cons, covers_cons, List.length_cons, List.replicate_succ, Bool.and_eq_true, ← ih, decide_eq_true_eq]
    constructor
    · intro h
      injection h with h1 h2
      refine ⟨?_, h2⟩
      split at h1 <;> omega
    · rintro ⟨h1, h2⟩
      rw [h2, if_neg (by omega)]
def bothM (a b : List Int) : List Int := List.zipWith (· + ·) a b
theorem rest_both : ∀ {w a b : List Int}, (∀ x ∈ a, 0 ≤ x) → (∀ x ∈ b, 0 ≤ x) → a.length = w.length → b.length = w.length → restM (restM w a) b = restM w (bothM a b)
  | [], [], [], _, _, _, _ => rfl
  | [], _ :: _, _, _, _, h, _ => by simp at h
  | [], [], _ :: _, _, _, _, h => by simp at h
  | n :: w, [], _, _, _, h, _ => by simp at h
  | n :: w, _ :: _, [], _, _, _, h => by simp at h
  | n :: w, x :: a, y :: b, ha, hb, h1, h2 => by
    have ih := rest_both (w := w) (a := a) (b := b) (fun x hx => ha x (List.mem_cons_of_mem _ hx)) (fun x hx => hb x (List.mem_cons_of_mem _ hx)) (by simpa using h1) (by simpa using h2)
    have hx := ha x List.mem_cons_self
    have hy := hb y List.mem_cons_self
    show restM (restM (n :: w) (x :: a)) (y :: b) = restM (n :: w) ((x + y) :: bothM a b)
    rw [restM_cons, restM_cons, restM_cons, ih]
    congr 1
    by_cases c1 : n - x > 0
    · rw [if_pos c1]
      by_cases c2 : n - x - y > 0
      · rw [if_pos c2, if_pos (by omega)]
        omega
      · rw [if_neg c2, if_neg (by omega)]
    · rw [if_neg c1, if_neg (by omega), if_neg (by omega)]
theorem both_comm (a b : List Int) : bothM a b = bothM b a := by
  unfold bothM
  rw [List.zipWith_comm]
  congr 1
  funext x y
  exact Int.add_comm _ _
theorem both_get {a b : List Int} {i : Nat} {x y : Int} (h : a[i]? = some x) (h2 : b[i]? = some y) : (bothM a b)[i]? = some (x + y) := by
  unfold bothM
  rw [List.getElem?_zipWith, h, h2]
theorem both_len {a b : List Int} (h : a.length = b.length) : (bothM a b).length = a.length := by
  unfold bothM
  rw [List.length_zipWith]
  omega
theorem any_rows (rs : List (List Int)) (r : List Int) : ((rs.map fun r => PyData.list (r.map PyData.int)).any fun z => PyData.eqv z (.list (r.map PyData.int))) = decide (r ∈ rs) := by
  rw [Bool.eq_iff_iff, List.any_eq_true, decide_eq_true_eq]
  constructor
  · rintro ⟨z, hz, h⟩
    obtain ⟨s, hs, rfl⟩ := List.mem_map.mp hz
    rw [eqv_ints] at h
    rw [← of_decide_eq_true h]
    exact hs
  · intro h
    exact ⟨_, List.mem_map.mpr ⟨r, h, rfl⟩, by rw [eqv_ints]; exact decide_eq_true rfl⟩
/-! ### tables through calls -/
theorem tabG_same {H H' : Hp} {T : Addr} (s : Same H H') (h : GxR.TabG H T) : GxR.TabG H' T := by
  obtain ⟨ps, h1, h2⟩ := h
  exact ⟨ps, s _ _ h1, h2⟩
theorem tabG_but {H H' : Hp} {T d : Addr} {xs : List V} (s : SameBut d H H') (hd : H d = some (.lst xs)) (h : GxR.TabG H T) : GxR.TabG H' T := by
  obtain ⟨ps, h1, h2⟩ := h
  exact ⟨ps, s _ _ (ne_of h1 hd (fun z => nomatch z)) h1, h2⟩
theorem tabbed_lst {H H' : Hp} {T a : Addr} {xs : List V} (t : GxR.Tabbed T H H') (hT : GxR.TabG H T) (h : H a = some (.lst xs)) : H' a = some (.lst xs) := by
  obtain ⟨ps, h1, h2⟩ := hT
  rw [t.2 a (ne_of h h1 (fun z => nomatch z))]
  exact h
theorem draw4 (x : Int) : ∃ m : Nat, 1 ≤ m ∧ m ≤ 4 ∧ 1 + x % 4 = (m : Int) := ⟨(1 + x % 4).toNat, by omega, by omega, by omega⟩
/-! ### the law -/
abbrev s_law : Stmt := topS 10
abbrev N_law : List Str := ["_law_script", "_law_draws_here", "_law_many", "_law_want_here", "_law_one", "_law_other", "_law_every", "_law_turn", "_law_left", "_law_both", "_law_within", "_law_row", "_law_k"]
theorem sc_law : FnScope N_law ["_law_script"] (defScope s_law) := ⟨rfl, rfl, rfl, by decide +kernel, rfl, by decide +kernel, by decide +kernel⟩

def sp_law (K : PySem.W.Frag) (T : Addr) : Sp := fun vs H Q _ => ∃ (a : Addr) (ns : List Int), vs = [.ref a] ∧ SqL K H a (ns.map V.int) ∧ ns.length ≤ 63 ∧ GxR.TabG H T ∧ ∀ H', Q (.bl true) H'
theorem dpAll_rows {K : PySem.W.Frag} {H : Hp} : ∀ {bs : List Addr} {rs : List (List Int)}, bs.length = rs.length → (∀ (i : Nat) b r, bs[i]? = some b → rs[i]? = some r → H b = some (LI r)) → DpAll K H (bs.map V.ref) (rs.map fun r => .list (r.map PyData.int))
  | [], [], _, _ => .nil
  | [], _ :: _, h, _ => by simp at h
  | _ :: _, [], h, _ => by simp at h
  | b :: bs, r :: rs, hl, h => .cons (dp_ints (SqL.of (h 0 b r rfl rfl))) (dpAll_rows (by simpa using hl) fun i b' r' h1 h2 => h (i + 1) b' r' h1 h2)
theorem reps (n : Nat) : (List.replicate n [V.int 0]).flatten = (List.replicate n (0 : Int)).map V.int := by
  rw [List.map_replicate]
  induction n with
  | zero => rfl
  | succ n ih => rw [List.replicate_succ, List.flatten_cons, ih, List.replicate_succ]; rfl
section
variable {P : Program} {w : World} {K : PySem.W.Frag} {mg : Str → Option Value} {base : Heap}
theorem ok_law {f f1 f2 f3 f4 f5 f6 f7 f8 c T : Addr} {fd fd1 fd2 fd3 fd4 fd5 fd6 fd7 fd8 : FuncData} (M : Names mg) (D : Def K mg "law" s_law ["_law_script"] f fd)
    (D_had : Def K mg "had" s_had ["content", "thing"] f1 fd1) (D_covers : Def K mg "covers" s_covers ["content", "want"] f2 fd2) (D_rest : Def K mg "rest" s_rest ["want", "content"] f3 fd3) (D_lesser : Def K mg "lesser" s_lesser ["want"] f4 fd4)
    (D_law_draws : Def K mg "_law_draws" s_law_draws ["_law_script", "_law_turn", "_law_many"] f5 fd5) (D_law_pop : Def K mg "_law_pop" s_law_pop ["_law_draws_here"] f6 fd6)
    (D_law_want : Def K mg "_law_want" s_law_want ["_law_draws_here", "_law_many"] f7 fd7)
    (D_law_cases : Def K mg "_law_cases" s_law_cases ["_law_want_here"] f8 fd8) (hc : fd2.code = .ref c) (TB : GxR.TabB base mg c T) :
    FnOk P w K mg base CX0 3 f fd ["_law_script"] (sp_law K T) := by
  have G_covers : FnOk P w K mg base CX0 2 f2 fd2 ["content", "want"] (sp_covers K T) := ok_covers M D_covers hc TB D_had
  have G_rest : FnOk P w K mg base CX0 2 f3 fd3 ["want", "content"] (sp_rest K) := ok_rest M D_rest D_had
  have G_lesser : FnOk P w K mg base CX0 2 f4 fd4 ["want"] (sp_lesser K) := ok_lesser M D_lesser
  have G_law_draws : FnOk P w K mg base CX0 2 f5 fd5 ["_law_script", "_law_turn", "_law_many"] (sp_draws K) := ok_draws M D_law_draws
  have G_law_pop : FnOk P w K mg base CX0 2 f6 fd6 ["_law_draws_here"] sp_pop := ok_pop D_law_pop
  have G_law_want : FnOk P w K mg base CX0 2 f7 fd7 ["_law_draws_here", "_law_many"] sp_want := ok_want M D_law_want D_law_pop D_law_cases
  have G_law_cases : FnOk P w K mg base CX0 2 f8 fd8 ["_law_want_here"] (sp_cases K) := ok_cases D_law_cases
  refine D.F.ok sc_law (fun vs H Q E h => ?_) (fun cdv A outer s H vs Q E hr h => ?_)
  · obtain ⟨a, ns, rfl, _⟩ := h
    rfl
  · obtain ⟨a, ns, rfl, hS, hlen, hT, q⟩ := h
    refine ⟨_, (pss_cons (ps_set (i := 1) sc_law.nd rfl (Or.inr rfl) (pe_call G_law_draws hr (by rfl) D_law_draws.g D_law_draws.F.kp D_law_draws.b .nil pass0 (pa_cons (pv 0) (pa_cons pe_int (pa_cons pe_int pa_nil)))))
  (pss_cons (ps_set (i := 2) sc_law.nd rfl (Or.inl rfl) (pe_op op_add pe_int (pe_op op_mod (pe_call G_law_pop hr (by rfl) D_law_pop.g D_law_pop.F.kp D_law_pop.b .nil pass0 (pa_cons (pv 1) pa_nil)) pe_int)))
  (pss_cons (ps_set (i := 3) sc_law.nd rfl (Or.inl rfl) (pe_call G_law_want hr (by rfl) D_law_want.g D_law_want.F.kp D_law_want.b .nil pass0 (pa_cons (pv 1) (pa_cons (pv 2) pa_nil))))
  (pss_cons (ps_set (i := 4) sc_law.nd rfl (Or.inr rfl) (pe_call G_law_want hr (by rfl) D_law_want.g D_law_want.F.kp D_law_want.b .nil pass0 (pa_cons (pv 1) (pa_cons (pv 2) pa_nil))))
  (pss_cons (ps_set (i := 5) sc_law.nd rfl (Or.inr rfl) (pe_call G_law_want hr (by rfl) D_law_want.g D_law_want.F.kp D_law_want.b .nil pass0 (pa_cons (pv 1) (pa_cons (pv 2) pa_nil))))
  (pss_cons (ps_set (i := 6) sc_law.nd rfl (Or.inr rfl) (pe_call G_lesser hr (by rfl) D_lesser.g D_lesser.F.kp D_lesser.b .nil pass0 (pa_cons (pv 3) pa_nil)))
  (pss_cons (ps_if (PW.pt (pw_or (pt_cmpR op_ne (pe_callB call_len_seq (by rfl) M.len (by decide +kernel) (pa_cons (pv 6) pa_nil)) (pe_call G_law_cases hr (by rfl) D_law_cases.g D_law_cases.F.kp D_law_cases.b .nil pass0 (pa_cons (pv 3) pa_nil)) (nomark _)) (pw_or (pt_cmpR (op_neD hr.units) (pe_ix ix_list (pv 6) pe_int (fun _ _ => rfl)) (pe_op op_rep (pe_lst (pa_cons pe_int pa_nil)) (pv 2)) (nomark _)) (pw_or1 (pt_cmpR (op_neD hr.units) (pe_ix ix_list (pv 6) (pe_un un_neg pe_int) (fun _ _ => rfl)) (pv 3) (nomark _))))))
   (pss_one (ps_ret pe_bl))
   pss_nil)
  (pss_cons (ps_if (pt_cmpR op_gt (pe_callB call_len_seq (by rfl) M.len (by decide +kernel) (pa_cons (pe_lc (own := [("_law_k", 12)]) (by rfl) sc_law.nd (pi_range2 (by rfl) M.range (pa_cons pe_int (pa_cons (pe_callB call_len_seq (by rfl) M.len (by decide +kernel) (pa_cons (pv 6) pa_nil)) pa_nil))) (blkOk_by (own := [("_law_k", 12)]) (N := N_law) (sc := defScope s_law) (by decide +kernel)) (fun _ _ _ _ _ => (pg_name (i := 12) sc_law.nd rfl (Or.inl rfl))) (fun _ _ _ _ _ => (pts_one (pt_cmpR (op_geDK (K := K) rfl hr.units) (pe_ix (ix_listK (K := K) rfl) (pv 6) (pe_op op_sub (pv 12) pe_int) (fun _ _ => rfl)) (pe_ix (ix_listK (K := K) rfl) (pv 6) (pv 12) (fun _ _ => rfl)) (nomark _)))) (fun _ _ _ _ _ => (pv 12))) pa_nil)) pe_int (nomark _))
   (pss_one (ps_ret pe_bl))
   pss_nil)
  (pss_cons (ps_for PassesOwn.never rfl (pi_range1 (by rfl) M.range (pa_cons pe_int pa_nil)) (pg_name (i := 7) sc_law.nd rfl (Or.inl rfl))
   (pss_cons (ps_setLc (i := 11) (own := [("_law_k", 12)]) (by rfl) sc_law.nd rfl rfl (sw_true rfl rfl rfl (by decide +kernel)) (pi_range1 (by rfl) M.range (pa_cons (pv 2) pa_nil)) (blkOk_by (own := [("_law_k", 12)]) (N := N_law) (sc := defScope s_law) (by decide +kernel)) (fun _ _ _ _ _ => (pg_name (i := 12) sc_law.nd rfl (Or.inl rfl))) (fun _ _ _ _ _ => pts_nil) (fun _ _ _ _ _ => (pe_op op_mod (pe_call G_law_pop hr (by rfl) D_law_pop.g D_law_pop.F.kp D_law_pop.b .nil pass0 (pa_cons (pv 1) pa_nil)) pe_int)))
  (pss_one (ps_if (PW.pt (pw_and (pt_cmpR op_le (pe_call G_law_cases hr (by rfl) D_law_cases.g D_law_cases.F.kp D_law_cases.b .nil pass0 (pa_cons (pv 11) pa_nil)) pe_int (nomark _)) (pw_and1 (pt_cmpR op_ne (pe_cmpR (op_inD (hu65 hr)) (pv 11) (pv 6) (by rfl)) (pe_call G_covers hr (by rfl) D_covers.g D_covers.F.kp D_covers.b .nil pass0 (pa_cons (pv 3) (pa_cons (pv 11) pa_nil))) (nomark _)))))
   (pss_one (ps_ret pe_bl))
   pss_nil))))
  (pss_cons (ps_set (i := 8) sc_law.nd rfl (Or.inr rfl) (pe_call G_rest hr (by rfl) D_rest.g D_rest.F.kp D_rest.b .nil pass0 (pa_cons (pv 3) (pa_cons (pv 4) pa_nil))))
  (pss_cons (ps_if (PW.pt (pw_or (pt_cmpR op_ne (pe_cmpR (op_eqD hr.units) (pv 8) (pe_op op_rep (pe_lst (pa_cons pe_int pa_nil)) (pv 2)) (nomark _)) (pe_call G_covers hr (by rfl) D_covers.g D_covers.F.kp D_covers.b .nil pass0 (pa_cons (pv 4) (pa_cons (pv 3) pa_nil))) (nomark _)) (pw_or1 (pt_cmpR (op_notInD (hu65 hr)) (pv 8) (pv 6) (by rfl)))))
   (pss_one (ps_ret pe_bl))
   pss_nil)
  (pss_cons (ps_setLc (i := 9) (own := [("_law_k", 12)]) (by rfl) sc_law.nd rfl rfl (sw_true rfl rfl rfl (by decide +kernel)) (pi_range1 (by rfl) M.range (pa_cons (pv 2) pa_nil)) (blkOk_by (own := [("_law_k", 12)]) (N := N_law) (sc := defScope s_law) (by decide +kernel)) (fun _ _ _ _ _ => (pg_name (i := 12) sc_law.nd rfl (Or.inl rfl))) (fun _ _ _ _ _ => pts_nil) (fun _ _ _ _ _ => (pe_op op_add (pe_ix (ix_listK (K := K) rfl) (pv 4) (pv 12) (fun _ _ => rfl)) (pe_ix (ix_listK (K := K) rfl) (pv 5) (pv 12) (fun _ _ => rfl)))))
  (pss_cons (ps_if (PW.pt (pw_or (pt_cmpR (op_neD hr.units) (pe_call G_rest hr (by rfl) D_rest.g D_rest.F.kp D_rest.b .nil pass0 (pa_cons (pv 8) (pa_cons (pv 5) pa_nil))) (pe_call G_rest hr (by rfl) D_rest.g D_rest.F.kp D_rest.b .nil pass0 (pa_cons (pv 3) (pa_cons (pv 9) pa_nil))) (nomark _)) (pw_or1 (pt_cmpR (op_neD hr.units) (pe_call G_rest hr (by rfl) D_rest.g D_rest.F.kp D_rest.b .nil pass0 (pa_cons (pe_call G_rest hr (by rfl) D_rest.g D_rest.F.kp D_rest.b .nil pass0 (pa_cons (pv 3) (pa_cons (pv 5) pa_nil))) (pa_cons (pv 4) pa_nil))) (pe_call G_rest hr (by rfl) D_rest.g D_rest.F.kp D_rest.b .nil pass0 (pa_cons (pv 3) (pa_cons (pv 9) pa_nil))) (nomark _)))))
   (pss_one (ps_ret pe_bl))
   pss_nil)
  (pss_cons (ps_set (i := 10) sc_law.nd rfl (Or.inl rfl) (pe_call G_lesser hr (by rfl) D_lesser.g D_lesser.F.kp D_lesser.b .nil pass0 (pa_cons (pv 8) pa_nil)))
  (pss_one (ps_ret (pe_cmpR (op_eqD hr.units) (pe_lc (own := [("_law_row", 11)]) (by rfl) sc_law.nd (pi_list (pv 6)) (blkOk_by (own := [("_law_row", 11)]) (N := N_law) (sc := defScope s_law) (by decide +kernel)) (fun _ _ _ _ _ => (pg_name (i := 11) sc_law.nd rfl (Or.inl rfl))) (fun _ _ _ _ _ => (pts_one (pt_val (pe_call G_covers hr (by rfl) D_covers.g D_covers.F.kp D_covers.b .nil pass0 (pa_cons (pv 8) (pa_cons (pv 11) pa_nil)))))) (fun _ _ _ _ _ => (pv 11))) (pv 10) (nomark _)))))))))))))))))), ?_⟩
    refine ⟨_, rfl, a, ns, 2, 80, rfl, hS, by omega, by omega, by omega, fun H1 d ds s1 nd hd => ?_⟩
    have hT1 := tabG_same s1 hT
    refine ⟨_, rfl, d, ds, rfl, hd, fun H2 s2 hd2 => ?_⟩
    have hT2 := tabG_but s2 hd hT1
    generalize ds.headD 0 = x0
    obtain ⟨m, hm1, hm4, em⟩ := draw4 x0
    refine ⟨_, _, rfl, rfl, (by show (0 : Int) < _; decide), _, _, rfl, rfl, ?_⟩
    refine ⟨_, rfl, _, rfl, d, _, m, by show [V.ref d, V.int (1 + x0 % 4)] = _; rw [em], hd2, hm1, hm4, fun H3 p ws ns3 s3 np npd hp hd3 hl sm hcs => ?_⟩
    have hT3 := tabG_but s3 hd2 hT2
    refine ⟨_, rfl, _, rfl, d, _, m, by show [V.ref d, V.int (1 + x0 % 4)] = _; rw [em], hd3, hm1, hm4, fun H4 o os ns4 s4 no nod ho hd4 hlo smo _ => ?_⟩
    have hT4 := tabG_but s4 hd3 hT3
    have hp4 := s4 _ _ npd hp
    refine ⟨_, rfl, _, rfl, d, _, m, by show [V.ref d, V.int (1 + x0 % 4)] = _; rw [em], hd4, hm1, hm4, fun H5 t ts ns5 s5 nt ntd ht hd5 hlt smt _ => ?_⟩
    have hT5 := tabG_but s5 hd4 hT4
    have hp5 := s5 _ _ npd hp4
    have ho5 := s5 _ _ nod ho
    have nn : ∀ x ∈ ws, 0 ≤ x := fun x hx => (sm x hx).1
    have no0 : ∀ x ∈ os, 0 ≤ x := fun x hx => (smo x hx).1
    have nt0 : ∀ x ∈ ts, 0 ≤ x := fun x hx => (smt x hx).1
    obtain ⟨ch, l0, hl0⟩ := lesserF_chain nn
    obtain ⟨l9, hl9⟩ := lesserF_last nn
    have big : (lesserF ws).length ≤ 10000 := lesserF_le4 sm (by omega)
    have pos : 0 < (lesserF ws).length := by
      rw [hl0]
      exact Nat.succ_pos _
    -- every
    refine ⟨_, rfl, p, ws, rfl, SqL.of hp5, by omega, sm, fun H6 ev s6 nev md => ?_⟩
    obtain ⟨bs, hev, hbl, bnd, hb⟩ := md
    have hp6 := s6 _ _ hp5
    have ho6 := s6 _ _ ho5
    have ht6 := s6 _ _ ht
    have hd6 := s6 _ _ hd5
    have hT6 := tabG_same s6 hT5
    have gets : ∀ (i : Nat), i < (lesserF ws).length → ∃ b r, bs[i]? = some b ∧ (lesserF ws)[i]? = some r ∧ (bs.map V.ref)[i]? = some (.ref b) := fun i hi => by
      refine ⟨bs[i]'(by omega), (lesserF ws)[i], List.getElem?_eq_getElem (by omega), List.getElem?_eq_getElem hi, ?_⟩
      rw [List.getElem?_map, List.getElem?_eq_getElem (by omega)]
      rfl
    -- what stays: the rows, the wants
    have keep : ∀ H' : Hp, (∀ (b : Addr) (xs : List V), b ≠ d → H6 b = some (.lst xs) → H' b = some (.lst xs)) → H' ev = some (.lst (bs.map V.ref)) ∧ (∀ (i : Nat) b r, bs[i]? = some b → (lesserF ws)[i]? = some r → H' b = some (LI r)) ∧ H' p = some (LI ws) ∧ H' o = some (LI os) ∧ H' t = some (LI ts) := fun H' k => by
      have nevd : ev ≠ d := fun z => by
        rw [z, hd5] at nev
        cases nev
      refine ⟨k _ _ nevd hev, fun i b r h1 h2 => ?_, k _ _ npd hp6, k _ _ nod ho6, k _ _ ntd ht6⟩
      obtain ⟨t1, t2, t3⟩ := hb i b r h1 h2
      refine k _ _ (fun z => ?_) t3
      rw [z, hd5] at t1
      cases t1
    have rowsD : ∀ H' : Hp, (∀ (i : Nat) b r, bs[i]? = some b → (lesserF ws)[i]? = some r → H' b = some (LI r)) → H' ev = some (.lst (bs.map V.ref)) → Dp K H' (.ref ev) (dRows (lesserF ws)) := fun H' h1 h2 => .lst (SqL.of h2) (dpAll_rows hbl h1)
    have rows6 : ∀ (i : Nat) b r, bs[i]? = some b → (lesserF ws)[i]? = some r → H6 b = some (LI r) := fun i b r h1 h2 => (hb i b r h1 h2).2.2
    have mz : (List.replicate (1 + x0 % 4).toNat [V.int 0]).flatten = (List.replicate ws.length (0 : Int)).map V.int := by
      rw [reps, show (1 + x0 % 4).toNat = ws.length by omega]
    -- len, first, last
    refine ⟨_, rfl, ev, _, rfl, .inl (SqL.of hev), _, rfl, p, ws, rfl, SqL.of hp6, sm.big, rfl, _, rfl, iteNS (by rw [List.length_map, hbl, casesM_lesser nn]) ?_⟩
    obtain ⟨b0, r0, g1, g2, g3⟩ := gets 0 pos
    refine ⟨_, rfl, ev, _, _, _, rfl, rfl, SqL.of hev, atI_nat (j := 0) g3, by show 1 ≤ sizeLine; decide, fun z nz => ⟨_, rfl, z, _, _, rfl, rfl, upd_same, by omega, by omega, szL (by show 1 * _ ≤ _; omega), fun y ny => ?_⟩⟩
    have s7 : Same H6 (upd (upd H6 z (.lst [.int 0])) y (.lst (List.replicate (1 + x0 % 4).toNat [V.int 0]).flatten)) := (same_upd nz).trans (same_upd ny)
    have er0 : r0 = List.replicate ws.length 0 := by
      rw [hl0] at g2
      exact (Option.some.inj g2).symm
    refine ⟨.list (r0.map PyData.int), .list ((List.replicate ws.length (0 : Int)).map PyData.int), dp_ints (SqL.of (s7 _ _ (rows6 0 b0 r0 g1 g2))), dp_ints (SqL.of (by rw [upd_same, mz])), shaped_ints _, shaped_ints _, _, rfl, ?_⟩
    rw [eqv_ints, decide_eq_true er0]
    have gl : (lesserF ws)[(lesserF ws).length - 1]? = some ws := by
      rw [hl9]
      simp
    obtain ⟨b1, r1, g4, g5, g6⟩ := gets ((lesserF ws).length - 1) (by omega)
    have er1 : r1 = ws := Option.some.inj (g5.symm.trans gl)
    have hneg : atI (bs.map V.ref) (-1) = some (.ref b1) := by
      have e : bs.map V.ref = (bs.map V.ref).take (bs.length - 1) ++ [.ref b1] := by
        rw [← take_succ_at (by rw [hbl]; exact g6), show bs.length - 1 + 1 = bs.length by omega]
        exact (List.take_of_length_le (by rw [List.length_map]; exact Nat.le_refl _)).symm
      rw [e]
      exact atI_last _ _
    refine ⟨_, rfl, 1, rfl, ev, _, -1, _, rfl, rfl, SqL.of (s7 _ _ hev), hneg, _, rfl, _, _, dp_ints (SqL.of (s7 _ _ (rows6 _ b1 r1 g4 g5))), dp_ints (SqL.of (s7 _ _ hp6)), shaped_ints _, shaped_ints _, _, rfl, ?_⟩
    rw [eqv_ints, decide_eq_true er1]
    generalize upd (upd H6 z (.lst [.int 0])) y (.lst (List.replicate (1 + x0 % 4).toNat [V.int 0]).flatten) = H7 at s7 ⊢
    -- rising
    refine ⟨_, rfl, ev, _, rfl, .inl (SqL.of (s7 _ _ hev)), 1, _, rfl, ⟨by omega, by omega, by omega, by rw [List.length_map]; omega⟩, fun B nB => lc_range (lo := 1) (n := (((bs.map V.ref).length : Int) - 1).toNat) (fun i H' => Same H7 H' ∧ H' B = some (.lst [])) ⟨same_upd nB, upd_same⟩ (fun i H8 hi hp => ?_) (fun H8 hp => ?_)⟩
    · obtain ⟨s8, hB⟩ := hp
      rw [List.length_map] at hi
      have s78 := s7.trans s8
      obtain ⟨c0, q0, k1, k2, k3⟩ := gets i (by omega)
      obtain ⟨c1, q1, k4, k5, k6⟩ := gets (i + 1) (by omega)
      have hx : nextF q0 ws = some q1 := by rw [ch.at k2, k5]
      refine ⟨rfl, _, rfl, _, rfl, _, _, rfl, rfl, ev, _, _, _, rfl, rfl, SqL.of (s78 _ _ hev), at_of (by show (1 : Int) + (i : Int) - 1 = (i : Int); omega) k3, _, rfl, _, rfl, ev, _, _, _, rfl, rfl, SqL.of (s78 _ _ hev), at_of (by show (1 : Int) + (i : Int) = ((i + 1 : Nat) : Int); omega) k6, _, _, dp_ints (SqL.of (s78 _ _ (rows6 _ c0 q0 k1 k2))), dp_ints (SqL.of (s78 _ _ (rows6 _ c1 q1 k4 k5))), alike_ints _ _, (fun z => nomatch z), shaped_ints _, _, rfl, ?_⟩
      rw [dataLt_ints, next_lt hx]
      exact ⟨s8, hB⟩
    · obtain ⟨s8, hB⟩ := hp
      refine ⟨B, _, rfl, .inl (SqL.of hB), _, _, rfl, rfl, _, rfl, ?_⟩
      have s68 := s7.trans s8
      -- the drawn rows
      refine ⟨_, rfl, by decide, by decide, for_range (n := 12) (fun i σ H' => ∃ y7 y11, σ = [some (.ref a), some (.ref d), some (.int (1 + x0 % 4)), some (.ref p), some (.ref o), some (.ref t), some (.ref ev), y7, none, none, none, y11, none] ∧ (∃ ds, H' d = some (LI ds)) ∧ GxR.TabG H' T ∧ ∀ (b : Addr) (xs : List V), b ≠ d → H6 b = some (.lst xs) → H' b = some (.lst xs)) ⟨none, none, rfl, ⟨_, s68 _ _ hd6⟩, tabG_same s68 hT6, fun b xs _ h => s68 _ _ h⟩ (fun i σ H9 hi hp => ?_) (fun σ H9 hp => ?_)⟩
      · obtain ⟨y7, y11, rfl, ⟨ds9, hd9⟩, hT9, k9⟩ := hp
        refine ⟨_, rfl, _, rfl, by omega, by omega, fun R nR => lc_range (lo := 0) (n := (1 + x0 % 4).toNat) (fun j H' => SameBut d H9 H' ∧ (∃ ds, H' d = some (LI ds)) ∧ ∃ rs : List Int, H' R = some (LI rs) ∧ rs.length = j ∧ Small rs) ?_ (fun j H10 hj hp => ?_) (fun H10 hp => ?_)⟩
        · exact ⟨.of (same_upd nR), ⟨ds9, by rw [upd_ne (ne_of_none hd9 nR)]; exact hd9⟩, [], upd_same, rfl, fun x hx => nomatch hx⟩
        · obtain ⟨s10, ⟨ds10, hd10⟩, rs, hR, hrl, smr⟩ := hp
          have ndR : d ≠ R := ne_of_none hd9 nR
          refine ⟨rfl, _, rfl, d, ds10, rfl, hd10, fun H11 s11 hd11 => ⟨_, _, rfl, rfl, (by show (0 : Int) < _; decide), _, s11 _ _ ndR.symm hR, szL' (by rw [List.length_map]; omega), ?_⟩⟩
          exact ⟨(s10.trans s11).new nR, ⟨ds10.tail, by rw [upd_ne ndR]; exact hd11⟩, _, at_app, by rw [List.length_append, hrl]; rfl, smr.app (by omega) (by omega)⟩
        · obtain ⟨s10, ⟨ds10, hd10⟩, rs, hR, hrl, smr⟩ := hp
          have hT10 := tabG_but s10 hd9 hT9
          have k10 : ∀ (b : Addr) (xs : List V), b ≠ d → H6 b = some (.lst xs) → H10 b = some (.lst xs) := fun b xs nb h => s10 _ _ nb (k9 b xs nb h)
          obtain ⟨x1, x2, x3, x4, x5⟩ := keep H10 k10
          refine ⟨_, rfl, R, rs, rfl, SqL.of hR, smr.big, _, _, rfl, rfl, _, rfl, ite2 (fun _ => ?_) (fun _ => ?_)⟩
          · refine ⟨_, rfl, _, rfl, _, _, dp_ints (SqL.of hR), rowsD H10 x2 x1, shaped_ints _, shaped_rows _, _, rfl, _, rfl, p, R, ws, rs, rfl, SqL.of x3, SqL.of hR, hT10, fun H11 t11 => ?_⟩
            refine ⟨rfl, _, rfl, iteNS ?_ ?_⟩
            · show V.bl _ = V.bl _
              congr 1
              rw [any_rows, Bool.eq_iff_iff, decide_eq_true_eq]
              exact mem_lesserF (fun x hx => (smr x hx).1) (by omega)
            · exact ⟨_, _, rfl, ⟨ds10, tabbed_lst t11 hT10 hd10⟩, t11.1, fun b xs nb h => tabbed_lst t11 hT10 (k10 b xs nb h)⟩
          · exact ⟨_, _, rfl, ⟨_, hd10⟩, hT10, k10⟩
      · obtain ⟨y7, y11, rfl, ⟨ds9, hd9⟩, hT9, k9⟩ := hp
        obtain ⟨x1, x2, x3, x4, x5⟩ := keep H9 k9
        have hleft := rest_small sm no0 (by omega)
        -- left
        refine ⟨_, rfl, _, rfl, p, o, ws, os, rfl, SqL.of x3, SqL.of x4, by omega, fun H10 L s10 nL hL => ?_⟩
        have hT10 := tabG_same s10 hT9
        refine ⟨_, rfl, by show 1 ≤ sizeLine; decide, fun z nz => ⟨_, rfl, z, _, _, rfl, rfl, upd_same, by omega, by omega, szL (by show 1 * _ ≤ _; omega), fun y ny => ?_⟩⟩
        have s11 : Same H10 (upd (upd H10 z (.lst [.int 0])) y (.lst (List.replicate (1 + x0 % 4).toNat [V.int 0]).flatten)) := (same_upd nz).trans (same_upd ny)
        have hy11 : upd (upd H10 z (.lst [.int 0])) y (.lst (List.replicate (1 + x0 % 4).toNat [V.int 0]).flatten) y = some (LI (List.replicate ws.length 0)) := by rw [upd_same, mz]
        generalize upd (upd H10 z (.lst [.int 0])) y (.lst (List.replicate (1 + x0 % 4).toNat [V.int 0]).flatten) = H11 at s11 hy11 ⊢
        have s911 := s10.trans s11
        refine ⟨_, _, dp_ints (SqL.of (s11 _ _ hL)), dp_ints (SqL.of hy11), shaped_ints _, shaped_ints _, _, rfl, _, rfl, o, p, os, ws, rfl, SqL.of (s911 _ _ x4), SqL.of (s911 _ _ x3), tabG_same s11 hT10, fun H12 t12 => ?_⟩
        have hT11 := tabG_same s11 hT10
        have k12 : ∀ {b : Addr} {xs : List V}, H11 b = some (.lst xs) → H12 b = some (.lst xs) := fun h => tabbed_lst t12 hT11 h
        have hL12 := k12 (s11 _ _ hL)
        have hev12 := k12 (s911 _ _ x1)
        have hrw12 : ∀ (i : Nat) b r, bs[i]? = some b → (lesserF ws)[i]? = some r → H12 b = some (LI r) := fun i b r h1 h2 => k12 (s911 _ _ (x2 i b r h1 h2))
        have hp12 := k12 (s911 _ _ x3)
        have ho12 := k12 (s911 _ _ x4)
        have ht12 := k12 (s911 _ _ x5)
        refine ⟨rfl, _, rfl, iteNS ?_ ?_⟩
        · show V.bl _ = V.bl _
          congr 1
          rw [eqv_ints, Bool.eq_iff_iff, decide_eq_true_eq]
          exact rest_zero (by omega)
        · refine ⟨_, rfl, _, rfl, _, _, dp_ints (SqL.of hL12), rowsD H12 hrw12 hev12, shaped_ints _, shaped_rows _, _, rfl, ?_⟩
          rw [any_rows, decide_eq_true ((mem_lesserF (restM_nonneg _ _) (by rw [restM_len])).mpr hleft.1)]
          -- both
          refine ⟨_, rfl, _, rfl, by omega, by omega, fun O nO => lc_range (lo := 0) (n := (1 + x0 % 4).toNat) (fun j H' => Same H12 H' ∧ H' O = some (LI ((bothM os ts).take j))) ⟨same_upd nO, upd_same⟩ (fun j H13 hj hp => ?_) (fun H13 hp => ?_)⟩
          · obtain ⟨s13, hO⟩ := hp
            have j1 := List.getElem?_eq_getElem (show j < os.length by omega)
            have j2 := List.getElem?_eq_getElem (show j < ts.length by omega)
            refine ⟨rfl, _, rfl, _, rfl, o, _, _, _, rfl, rfl, SqL.of (s13 _ _ ho12), at_of (Int.zero_add _) (get_ints j1), _, rfl, _, rfl, t, _, _, _, rfl, rfl, SqL.of (s13 _ _ ht12), at_of (Int.zero_add _) (get_ints j2), _, _, rfl, rfl, _, hO, szL' (by rw [List.length_map, List.length_take]; omega), sm_new s13 nO, ?_⟩
            rw [take_succ_at (both_get j1 j2)]
            exact at_app
          · obtain ⟨s13, hO⟩ := hp
            have lenb : (bothM os ts).length = m := by rw [both_len (by omega)]; exact hlo
            rw [List.take_of_length_le (by omega)] at hO
            have hL13 := s13 _ _ hL12
            have hp13 := s13 _ _ hp12
            have ho13 := s13 _ _ ho12
            have ht13 := s13 _ _ ht12
            refine ⟨_, rfl, _, rfl, L, t, restM ws os, ts, rfl, SqL.of hL13, SqL.of ht13, by rw [restM_len]; omega, fun H14 u1 s14 nu1 hu1 => ?_⟩
            refine ⟨_, rfl, _, rfl, p, O, ws, bothM os ts, rfl, SqL.of (s14 _ _ hp13), SqL.of (s14 _ _ hO), by omega, fun H15 u2 s15 nu2 hu2 => ?_⟩
            refine ⟨_, _, dp_ints (SqL.of (s15 _ _ hu1)), dp_ints (SqL.of hu2), shaped_ints _, shaped_ints _, _, rfl, ?_⟩
            rw [eqv_ints, decide_eq_true (rest_both no0 nt0 (by omega) (by omega))]
            have s135 := s14.trans s15
            refine ⟨_, rfl, _, rfl, p, t, ws, ts, rfl, SqL.of (s135 _ _ hp13), SqL.of (s135 _ _ ht13), by omega, fun H16 u3 s16 nu3 hu3 => ?_⟩
            have s136 := s135.trans s16
            refine ⟨_, rfl, u3, o, restM ws ts, os, rfl, SqL.of hu3, SqL.of (s136 _ _ ho13), by rw [restM_len]; omega, fun H17 u4 s17 nu4 hu4 => ?_⟩
            have s137 := s136.trans s17
            refine ⟨_, rfl, _, rfl, p, O, ws, bothM os ts, rfl, SqL.of (s137 _ _ hp13), SqL.of (s137 _ _ hO), by omega, fun H18 u5 s18 nu5 hu5 => ?_⟩
            refine ⟨_, _, dp_ints (SqL.of (s18 _ _ hu4)), dp_ints (SqL.of hu5), shaped_ints _, shaped_ints _, _, rfl, ?_⟩
            rw [eqv_ints, decide_eq_true (by rw [rest_both nt0 no0 (by omega) (by omega), both_comm])]
            have s138 := s137.trans s18
            have s128 := s13.trans s138
            -- within
            refine ⟨_, rfl, L, restM ws os, rfl, SqL.of (s138 _ _ hL13), by rw [restM_len]; omega, hleft.2, fun H19 wi s19 nwi md => ?_⟩
            obtain ⟨cs, hwi, hcl, cnd, hcr⟩ := md
            have s129 := s128.trans s19
            have hT19 := tabG_same s129 t12.1
            have hev19 := s129 _ _ hev12
            have hL19 := s129 _ _ hL12
            have hrw19 : ∀ (i : Nat) b r, bs[i]? = some b → (lesserF ws)[i]? = some r → H19 b = some (LI r) := fun i b r h1 h2 => s129 _ _ (hrw12 i b r h1 h2)
            have hwr19 : ∀ (i : Nat) b r, cs[i]? = some b → (lesserF (restM ws os))[i]? = some r → H19 b = some (LI r) := fun i b r h1 h2 => (hcr i b r h1 h2).2.2
            refine ⟨_, rfl, ev, rfl, ⟨_, SqL.of hev19⟩, fun F nF => lc_list (xs := bs.map V.ref) (fun i H' => (∀ (b : Addr) (xs : List V), H19 b = some (.lst xs) → H' b = some (.lst xs)) ∧ GxR.TabG H' T ∧ ∃ es : List Addr, H' F = some (.lst (es.map V.ref)) ∧ es.length ≤ i ∧
              es.length = (((lesserF ws).take i).filter fun r => coversM (restM ws os) r).length ∧ ∀ (j : Nat) b r, es[j]? = some b → (((lesserF ws).take i).filter fun r => coversM (restM ws os) r)[j]? = some r → H19 b = some (LI r)) ⟨fun b xs h => (same_upd nF) _ _ h, tabG_same (same_upd nF) hT19, [], upd_same, Nat.le_refl _, rfl, fun j b r h => by simp at h⟩ (fun i H' _ hp => SqL.of (hp.1 _ _ hev19)) (fun i x H20 hx hp => ?_) (fun H20 hp => ?_)⟩
            · obtain ⟨k20, hT20, es, hF, hel, hlen2, hes⟩ := hp
              have hi : i < (lesserF ws).length := by
                have := (List.getElem?_eq_some_iff.mp hx).1
                rw [List.length_map] at this
                omega
              obtain ⟨b, r, j1, j2, j3⟩ := gets i hi
              have ex : x = .ref b := Option.some.inj (hx.symm.trans j3)
              subst ex
              have hbr := hrw19 i b r j1 j2
              refine ⟨rfl, _, rfl, _, rfl, L, b, restM ws os, r, rfl, SqL.of (k20 _ _ hL19), SqL.of (k20 _ _ hbr), hT20, fun H21 t21 => ⟨_, rfl, ?_⟩⟩
              have k21 : ∀ (b : Addr) (xs : List V), H19 b = some (.lst xs) → H21 b = some (.lst xs) := fun b xs h => tabbed_lst t21 hT20 (k20 b xs h)
              have hF21 := tabbed_lst t21 hT20 hF
              have etk := take_succ_at j2
              cases hcov : coversM (restM ws os) r with
              | true =>
                refine ⟨_, rfl, _, hF21, szL' (by rw [List.length_map]; omega), fun b' xs h => ?_, ?_, es ++ [b], ?_, ?_, ?_, fun j b' r' h1 h2 => ?_⟩
                · rw [upd_ne (ne_of_none h nF)]
                  exact k21 b' xs h
                · obtain ⟨ps, p1, p2⟩ := t21.1
                  refine ⟨ps, ?_, p2⟩
                  rw [upd_ne (ne_of p1 hF21 (fun z => nomatch z))]
                  exact p1
                · rw [upd_same, List.map_append]
                  rfl
                · rw [List.length_append]
                  show es.length + 1 ≤ i + 1
                  omega
                · rw [etk, List.filter_append, List.length_append, List.length_append, hlen2]
                  simp [hcov]
                · rw [etk, List.filter_append, List.filter_cons_of_pos hcov, List.filter_nil] at h2
                  rcases Nat.lt_or_ge j es.length with hj | hj
                  · rw [List.getElem?_append_left hj] at h1
                    rw [List.getElem?_append_left (by omega)] at h2
                    exact hes j b' r' h1 h2
                  · rw [List.getElem?_append_right hj] at h1
                    rw [List.getElem?_append_right (by omega)] at h2
                    have e0 : j - es.length = 0 := by
                      cases e : j - es.length with
                      | zero => rfl
                      | succ n => rw [e] at h1; simp at h1
                    rw [← hlen2, e0] at h2
                    rw [e0] at h1
                    cases Option.some.inj h1
                    cases Option.some.inj h2
                    exact hbr
              | false =>
                refine ⟨k21, t21.1, es, hF21, by omega, ?_, fun j b' r' h1 h2 => ?_⟩
                · rw [etk, List.filter_append, hlen2]
                  simp [hcov]
                · rw [etk, List.filter_append, List.filter_cons_of_neg (by simp [hcov]), List.filter_nil, List.append_nil] at h2
                  exact hes j b' r' h1 h2
            · obtain ⟨k20, hT20, es, hF, hel, hlen2, hes⟩ := hp
              rw [List.length_map, List.take_of_length_le (by omega), lesser_filter (restM_nonneg _ _) (by rw [restM_len]) hleft.1] at hlen2 hes
              refine ⟨_, rfl, dRows (lesserF (restM ws os)), dRows (lesserF (restM ws os)), .lst (SqL.of hF) (dpAll_rows hlen2 fun i b r h1 h2 => k20 _ _ (hes i b r h1 h2)), .lst (SqL.of (k20 _ _ hwi)) (dpAll_rows hcl fun i b r h1 h2 => k20 _ _ (hwr19 i b r h1 h2)), shaped_rows _, shaped_rows _, ?_⟩
              rw [eqv_self (shaped_rows _)]
              exact q _
end
/-! ### the end, with tables of code objects -/
theorem tabIn_of {K : PySem.W.Frag} {x : Str} {f c P : Addr} {oc e : Value} {od dd : Option Addr} {fd : FuncData} {sl sl' : Array (Option Value)} {vs : Array Value} (a : PySem.W.nsIn K mainGlobals x = some (some (.ref f))) (l : K.lookup f = some ⟨oc, od, .func fd, sl⟩) (hc : fd.code = .ref c)
    (lc : K.lookup c = some ⟨e, dd, .fields vs, sl'⟩) (hv : vs[11]? = some (.ref P)) : PySem.W.tabIn K x = some (c, P) := by
  unfold PySem.W.tabIn
  rw [a]
  simp only [l, hc, lc, hv]
theorem walk_ofG {l : PySem.W.OpenLaw} {n k : Nat} {q : Program} {loose : List Str} {XP : (Str → Option Value) → Heap → Prop} {YP : World → Heap → Prop} {d : DefRec} {K : Params → PySem.W.Frag} {CX : World → CXT} {x : Str}
    (hn : l.most = some n) (hn2 : n ≤ sizeLine) (hdf : d.params.defaults = []) (hr : Room k callerA) (hY : ∀ (w : World) (h : Heap), YP w h → (K w.params).In h)
    (F : ∀ (w : World) (mg : Str → Option Value) (fa : Addr) (h : Heap), (K w.params).In h → h.Ns mainGlobals mg → mg d.name = some (.ref fa) →
      (∀ (y : Str) (c P : Addr), ((recsOf q).find? fun e => e.name == y).isSome = true → PySem.W.tabIn (K w.params) y = some (c, P) → PySem.W.CodeHd h c P ∧ h.get? P = some { cls := .none, data := .fields #[] }) → LamX.LawAtS l w (K w.params) (CX w) k n x mg fa h)
    (hCX : ∀ (w : World) (H : Hp) (s : Shared) (e : Value) (s' : Shared), CX w [] H s (fun _ _ _ => False) e s' → False) :
    PySem.W.WalkO q loose XP YP l.row.toRowW d [] (fun f vs => PySem.call f vs) := by
  refine Att.attach_callB hn hdf fun w s₀ s₁ mg mb fa o pm cd doc a vs ns G Y ho hd hcd hmg hobj hints hlen hbits hg => ?_
  have KX := hY w _ Y
  obtain ⟨fd, cs, sp, hT, nT, C, hb, hsp, hF⟩ := F w mg fa _ KX G.T.g hmg fun y c P hy ht => by
    obtain ⟨dd, hdd⟩ := Option.isSome_iff_exists.mp hy
    exact PySem.W.tab_of G.T KX hdd ht
  exact LamX.law_callTs KX G.T.g G.T.b G.T.builtins G.T.nolimit hg hT nT C G.T.bmain hobj hints (Nat.le_trans hlen hn2) hr hF hb (fun H hH hS => hsp H a ns hlen hbits hH hS) fun H e s' => hCX w H s₁ e s'
/-! ### what the top has written -/
theorem all_mk {l : PySem.W.OpenLaw} {w : World} {q : Program} {K : PySem.W.Frag} {h : Heap} {mg : Str → Option Value} {fa f1 f2 f3 f4 f5 f6 f7 f8 f9 : Addr} (X : K.In h) (G : h.Ns mainGlobals mg) (hfa : mg "law" = some (.ref fa))
    (tabs : ∀ (y : Str) (c P : Addr), ((recsOf q).find? fun e => e.name == y).isSome = true → PySem.W.tabIn K y = some (c, P) → PySem.W.CodeHd h c P ∧ h.get? P = some { cls := .none, data := .fields #[] })
    {od1 an1 od2 an2 od3 an3 od4 an4 od5 an5 od6 an6 od7 an7 od8 an8 od9 an9 : Option Addr} {sl1 sl2 sl3 sl4 sl5 sl6 sl7 sl8 sl9 : Array (Option Value)} {oc1 kV1 dc1 pm1 ct1 cd1 oc2 kV2 dc2 pm2 ct2 cd2 oc3 kV3 dc3 pm3 ct3 oc4 kV4 dc4 pm4 ct4 cd4 oc5 kV5 dc5 pm5 ct5 cd5 oc6 kV6 dc6 pm6 ct6 cd6 oc7 kV7 dc7 pm7 ct7 cd7 oc8 kV8 dc8 pm8 ct8 cd8 oc9 kV9 dc9 pm9 ct9 cd9 : Value}
    {cT3 PT3 : Addr} {eT3 : Value} {dT3 : Option Addr} {vT3 : Array Value} {sT3 : Array (Option Value)}
    (a1 : PySem.W.nsIn K mainGlobals "law" = some (some (.ref f1))) (l1 : K.lookup f1 = some ⟨oc1, od1, .func (PySem.W.fnOf "law" "law" (defArgs s_law) (defBody s_law) (defScope s_law) .none kV1 dc1 pm1 an1 cd1 ct1), sl1⟩) (c1 : PySem.W.codeIn K cd1 "law" = true) (k1 : PySem.W.keepIn K (.ref f1) = true)
    (a2 : PySem.W.nsIn K mainGlobals "had" = some (some (.ref f2))) (l2 : K.lookup f2 = some ⟨oc2, od2, .func (PySem.W.fnOf "had" "had" (defArgs s_had) (defBody s_had) (defScope s_had) .none kV2 dc2 pm2 an2 cd2 ct2), sl2⟩) (c2 : PySem.W.codeIn K cd2 "had" = true) (k2 : PySem.W.keepIn K (.ref f2) = true)
    (a3 : PySem.W.nsIn K mainGlobals "covers" = some (some (.ref f3))) (l3 : K.lookup f3 = some ⟨oc3, od3, .func (PySem.W.fnOf "covers" "covers" (defArgs s_covers) (defBody s_covers) (defScope s_covers) .none kV3 dc3 pm3 an3 (.ref cT3) ct3), sl3⟩) (c3 : PySem.W.codeIn K (.ref cT3) "covers" = true) (k3 : PySem.W.keepIn K (.ref f3) = true)
    (a4 : PySem.W.nsIn K mainGlobals "rest" = some (some (.ref f4))) (l4 : K.lookup f4 = some ⟨oc4, od4, .func (PySem.W.fnOf "rest" "rest" (defArgs s_rest) (defBody s_rest) (defScope s_rest) .none kV4 dc4 pm4 an4 cd4 ct4), sl4⟩) (c4 : PySem.W.codeIn K cd4 "rest" = true) (k4 : PySem.W.keepIn K (.ref f4) = true)
    (a5 : PySem.W.nsIn K mainGlobals "lesser" = some (some (.ref f5))) (l5 : K.lookup f5 = some ⟨oc5, od5, .func (PySem.W.fnOf "lesser" "lesser" (defArgs s_lesser) (defBody s_lesser) (defScope s_lesser) .none kV5 dc5 pm5 an5 cd5 ct5), sl5⟩) (c5 : PySem.W.codeIn K cd5 "lesser" = true) (k5 : PySem.W.keepIn K (.ref f5) = true)
    (a6 : PySem.W.nsIn K mainGlobals "_law_draws" = some (some (.ref f6))) (l6 : K.lookup f6 = some ⟨oc6, od6, .func (PySem.W.fnOf "_law_draws" "_law_draws" (defArgs s_law_draws) (defBody s_law_draws) (defScope s_law_draws) .none kV6 dc6 pm6 an6 cd6 ct6), sl6⟩) (c6 : PySem.W.codeIn K cd6 "_law_draws" = true) (k6 : PySem.W.keepIn K (.ref f6) = true)
    (a7 : PySem.W.nsIn K mainGlobals "_law_pop" = some (some (.ref f7))) (l7 : K.lookup f7 = some ⟨oc7, od7, .func (PySem.W.fnOf "_law_pop" "_law_pop" (defArgs s_law_pop) (defBody s_law_pop) (defScope s_law_pop) .none kV7 dc7 pm7 an7 cd7 ct7), sl7⟩) (c7 : PySem.W.codeIn K cd7 "_law_pop" = true) (k7 : PySem.W.keepIn K (.ref f7) = true)
    (a8 : PySem.W.nsIn K mainGlobals "_law_want" = some (some (.ref f8))) (l8 : K.lookup f8 = some ⟨oc8, od8, .func (PySem.W.fnOf "_law_want" "_law_want" (defArgs s_law_want) (defBody s_law_want) (defScope s_law_want) .none kV8 dc8 pm8 an8 cd8 ct8), sl8⟩) (c8 : PySem.W.codeIn K cd8 "_law_want" = true) (k8 : PySem.W.keepIn K (.ref f8) = true)
    (a9 : PySem.W.nsIn K mainGlobals "_law_cases" = some (some (.ref f9))) (l9 : K.lookup f9 = some ⟨oc9, od9, .func (PySem.W.fnOf "_law_cases" "_law_cases" (defArgs s_law_cases) (defBody s_law_cases) (defScope s_law_cases) .none kV9 dc9 pm9 an9 cd9 ct9), sl9⟩) (c9 : PySem.W.codeIn K cd9 "_law_cases" = true) (k9 : PySem.W.keepIn K (.ref f9) = true)
    (lc3 : K.lookup cT3 = some ⟨eT3, dT3, .fields vT3, sT3⟩) (hv3 : vT3[11]? = some (.ref PT3)) (nt3 : (K.lookup PT3).isNone = true) (rc3 : ((recsOf q).find? fun e => e.name == ("covers" : Str)).isSome = true)
    (z1 : PySem.W.nsIn K mainGlobals "len" = some none)
    (z2 : PySem.W.nsIn K mainGlobals "range" = some none)
    (z3 : PySem.W.nsIn K mainGlobals "max" = some none)
    (z4 : PySem.W.nsIn K mainGlobals "list" = some none)
    (z5 : PySem.W.nsIn K mainGlobals "isinstance" = some none)
    (z6 : PySem.W.nsIn K mainGlobals "int" = some none)
    (z7 : PySem.W.nsIn K mainGlobals "bool" = some none)
    (z8 : PySem.W.nsIn K mainGlobals "enumerate" = some none)
    (z9 : PySem.W.nsIn K mainGlobals "all" = some none)
    : LamX.LawAtS l w K CX0 3 63 "_law_script" mg fa h := by
  have e := hfa.symm.trans (PySem.W.mg_of X G a1)
  cases e
  have F1 := fun_mk (st := s_law) l1 c1 k1
  have b1 := F1.binds (ps := ["_law_script"]) fun _ _ _ _ _ _ us hl => match us, hl with | [_], _ => rfl
  have F2 := fun_mk (st := s_had) l2 c2 k2
  have b2 := F2.binds (ps := ["content", "thing"]) fun _ _ _ _ _ _ us hl => match us, hl with | [_, _], _ => rfl
  have F3 := fun_mk (st := s_covers) l3 c3 k3
  have b3 := F3.binds (ps := ["content", "want"]) fun _ _ _ _ _ _ us hl => match us, hl with | [_, _], _ => rfl
  have F4 := fun_mk (st := s_rest) l4 c4 k4
  have b4 := F4.binds (ps := ["want", "content"]) fun _ _ _ _ _ _ us hl => match us, hl with | [_, _], _ => rfl
  have F5 := fun_mk (st := s_lesser) l5 c5 k5
  have b5 := F5.binds (ps := ["want"]) fun _ _ _ _ _ _ us hl => match us, hl with | [_], _ => rfl
  have F6 := fun_mk (st := s_law_draws) l6 c6 k6
  have b6 := F6.binds (ps := ["_law_script", "_law_turn", "_law_many"]) fun _ _ _ _ _ _ us hl => match us, hl with | [_, _, _], _ => rfl
  have F7 := fun_mk (st := s_law_pop) l7 c7 k7
  have b7 := F7.binds (ps := ["_law_draws_here"]) fun _ _ _ _ _ _ us hl => match us, hl with | [_], _ => rfl
  have F8 := fun_mk (st := s_law_want) l8 c8 k8
  have b8 := F8.binds (ps := ["_law_draws_here", "_law_many"]) fun _ _ _ _ _ _ us hl => match us, hl with | [_, _], _ => rfl
  have F9 := fun_mk (st := s_law_cases) l9 c9 k9
  have b9 := F9.binds (ps := ["_law_want_here"]) fun _ _ _ _ _ _ us hl => match us, hl with | [_], _ => rfl
  have M : Names mg := ⟨PySem.W.mg_none_of X G z1, PySem.W.mg_none_of X G z2, PySem.W.mg_none_of X G z3, PySem.W.mg_none_of X G z4, PySem.W.mg_none_of X G z5, PySem.W.mg_none_of X G z6, PySem.W.mg_none_of X G z7, PySem.W.mg_none_of X G z8, PySem.W.mg_none_of X G z9⟩
  obtain ⟨hd3, ht3⟩ := tabs "covers" cT3 PT3 rc3 (tabIn_of a3 l3 rfl lc3 hv3)
  refine ⟨PySem.W.fnOf "law" "law" (defArgs s_law) (defBody s_law) (defScope s_law) .none kV1 dc1 pm1 an1 cd1 ct1, [(cT3, PT3)], sp_law K PT3, ?hT, ?nT, ?hC, fun s v => .of_eq rfl, fun H a ns hl _ hT hS => ⟨a, ns, rfl, hS, hl, ⟨#[], hT (cT3, PT3) List.mem_cons_self, True.intro⟩, fun _ => rfl⟩, fun base _ _ hB => ?_⟩
  case hT =>
    exact fun p hp => by
      rcases List.mem_cons.mp hp with rfl | hp
      · exact ht3
      cases hp
  case nT =>
    exact fun p hp => by
      rcases List.mem_cons.mp hp with rfl | hp
      · exact Option.isNone_iff_eq_none.mp nt3
      cases hp
  case hC =>
    exact fun p hp => by
      rcases List.mem_cons.mp hp with rfl | hp
      · exact hd3
      cases hp
  have T3 := hB (cT3, PT3) List.mem_cons_self
  exact ok_law M ⟨F1, PySem.W.mg_of X G a1, b1⟩ ⟨F2, PySem.W.mg_of X G a2, b2⟩ ⟨F3, PySem.W.mg_of X G a3, b3⟩ ⟨F4, PySem.W.mg_of X G a4, b4⟩ ⟨F5, PySem.W.mg_of X G a5, b5⟩ ⟨F6, PySem.W.mg_of X G a6, b6⟩ ⟨F7, PySem.W.mg_of X G a7, b7⟩ ⟨F8, PySem.W.mg_of X G a8, b8⟩ ⟨F9, PySem.W.mg_of X G a9, b9⟩ rfl ⟨T3.code, T3.bm, T3.gP⟩
end Pk
open PySem PySem.W PyProof.Rows
set_option maxHeartbeats 0 in
theorem PySem.Challenge.cw_packwants_k03_whole_wants_holds : PySem.Challenge.rw_packwants_k03_whole_wants.Holds := by
  w_on; o_law; k_head; (case hw => w_witness2)
  k_fill
  refine Pk.walk_ofG (l := PySem.Challenge.rw_packwants_k03_whole_wants) (n := 63) (k := 3) (x := "_law_script") (CX := fun _ => L2.CX0) rfl (by decide) rfl ⟨rfl, by decide, by decide⟩ (fun w h Y => PySem.W.kIn_of Y) ?F (fun _ _ _ _ _ h => h)
  case F =>
    intro w mg fa h KX G hmg tabs
    refine' Pk.all_mk KX G hmg tabs ?a1 ?l1 ?c1 ?k1 ?a2 ?l2 ?c2 ?k2 ?a3 ?l3 ?c3 ?k3 ?a4 ?l4 ?c4 ?k4 ?a5 ?l5 ?c5 ?k5 ?a6 ?l6 ?c6 ?k6 ?a7 ?l7 ?c7 ?k7 ?a8 ?l8 ?c8 ?k8 ?a9 ?l9 ?c9 ?k9 ?lc3 ?hv3 ?nt3 ?rc3 ?z1 ?z2 ?z3 ?z4 ?z5 ?z6 ?z7 ?z8 ?z9
    (case a1 => k_is); (case l1 => k_is); (case c1 => k_is); (case k1 => k_is); (case a2 => k_is); (case l2 => k_is); (case c2 => k_is); (case k2 => k_is); (case a3 => k_is); (case l3 => k_is); (case c3 => k_is); (case k3 => k_is); (case a4 => k_is); (case l4 => k_is); (case c4 => k_is); (case k4 => k_is); (case a5 => k_is); (case l5 => k_is); (case c5 => k_is); (case k5 => k_is); (case a6 => k_is); (case l6 => k_is); (case c6 => k_is); (case k6 => k_is); (case a7 => k_is); (case l7 => k_is); (case c7 => k_is); (case k7 => k_is); (case a8 => k_is); (case l8 => k_is); (case c8 => k_is); (case k8 => k_is); (case a9 => k_is); (case l9 => k_is); (case c9 => k_is); (case k9 => k_is); (case lc3 => k_is); (case hv3 => rfl); (case nt3 => rfl); (case rc3 => rfl); (case z1 => k_is); (case z2 => k_is); (case z3 => k_is); (case z4 => k_is); (case z5 => k_is); (case z6 => k_is); (case z7 => k_is); (case z8 => k_is); (case z9 => k_is)
